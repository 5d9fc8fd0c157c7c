/- That the law CleanOnce returns true for every input that can be read, and leaves its arguments as they were; no further condition. -/
import Derived.Test.YtgcjangnlbhicaaRows
import Derived.WalkKit
import Derived.ProofKit
import Derived.OpenShut
import Derived.Test.YtgcjangnlbhicaaWords
import Derived.Test.YtgcjangnlbhicaaSrcNew0
import Derived.Test.YtgcjangnlbhicaaStZ2
import Derived.ShutString
import Derived.ChangeOld
import Derived.Below
namespace Go.Proofs.Ytgcjangnlbhicaa.cleanOnce
open Go.ChangeShapes Go.WideShapes Go.ChangeAt Go.RowKit Wo
open Go.ChangeMaps (open_string shut_string)
set_option linter.unusedVariables false

theorem own : ownKnob Try.prog.godebug = none := by kernel_rfl
theorem laidOut : laidOutB Try.prog = true := by kernel_rfl

/-- WHAT THE WALK IS TOLD OF A SLICE OF INTEGERS THAT CAME IN: it is nil; or it leads to a row of 'cap' cells, the numbers 'zs' (the first 'len' are its elements, the rest its spare room), each fitting its kind. -/
def IsRow (k : IntKind) (w : World) (a : Option Addr) (len cap : Nat) (zs : List Int) : Prop :=
  (a = none ∧ len = 0 ∧ cap = 0 ∧ zs = []) ∨
  ∃ x, a = some x ∧ len ≤ cap ∧ cap ≤ maxLen ∧ zs.length = cap ∧ (∀ i, i < zs.length → w.cell? (x.add i) = some (.int k (zs.getD i 0))) ∧ ∀ n ∈ zs, (Lit.int k n).wf = true

open Go.Proofs.Ytgcjangnlbhicaa.St Go.Proofs.Ytgcjangnlbhicaa.Pk Go.Proofs.Ytgcjangnlbhicaa.Rg Go.Proofs.Ytgcjangnlbhicaa.Rm Go.Proofs.Ytgcjangnlbhicaa.Wi Go.Proofs.Ytgcjangnlbhicaa.Wo Go.Proofs.Ytgcjangnlbhicaa.Sr in
set_option maxHeartbeats 8000000 in
set_option maxRecDepth 100000 in
set_option linter.unusedSimpArgs false in
theorem walk (a0 : Option Addr) (len0 cap0 : Nat) (z0 : List Int) (a1 : Int) (a2 : Int) (w : World) (w0 : IsRow .i64 w a0 len0 cap0 z0) (w1 : (Lit.int .u8 a1).wf = true) (w2 : (Lit.int .u8 a2).wf = true) :
    Calls Try.prog 7 #[.slice a0 len0 cap0, .int .u8 a1, .int .u8 a2] w fun e w' => e = .returned (.bool true) ∧ Below w.heap.size w w' := by
  obtain ⟨p0, p1⟩ := bounds_u8 w1
  obtain ⟨q0, q1⟩ := bounds_u8 w2
  obtain ⟨P, hP⟩ : ∃ x, a1.tmod 5 = x := ⟨_, rfl⟩
  obtain ⟨Q, hQ⟩ : ∃ x, a2.tmod 6 = x := ⟨_, rfl⟩
  have P0 : 0 ≤ P := by rw [← hP]; exact Int.tmod_nonneg 5 p0
  have P4 : P ≤ 4 := by have := Int.tmod_lt_of_pos a1 (b := 5) (by decide); omega
  have Q0 : 0 ≤ Q := by rw [← hQ]; exact Int.tmod_nonneg 6 q0
  have Q5 : Q ≤ 5 := by have := Int.tmod_lt_of_pos a2 (b := 6) (by decide); omega
  have wa1 : IntKind.i64.wrap a1 = a1 := IntWalk.i64_in _ (by omega)
  have wa2 : IntKind.i64.wrap a2 = a2 := IntWalk.i64_in _ (by omega)
  clear w1 w2
  have AW : Hid (∀ W, Calls Try.prog 12 #[] W fun e w' => e = .returned (.bool true) ∧ Bel W w') := awake_any
  go_enter Try.func7, Try.ntmps7
  go_wp2_with fail
  go_at_call 8
  refine (new_any a0 len0 cap0 z0 w w0).mono ?_
  rintro e v1 ⟨g, rfl, hg, ho1, hb1⟩
  have HO1 := Lib.hid ho1
  have HB1 := Lib.hid hb1
  clear ho1 hb1 w0
  go_wp2_with fail
  go_at_call 9
  refine (readings_new g 25 (by decide) _ HO1.out).mono ?_
  rintro e v2 ⟨v, k, l, rfl, hown, hl, hk, hv, ho2, hc2⟩
  have HB2 : Hid (Bel w v2) := Bel.ch HB1.out hc2 hg
  obtain ⟨A, ca, rfl, hz, hA⟩ := own_zn hown hl
  have HZ : Hid (∀ W, Bel v2 W → Zo W A k l) := fun W hW => Zo.bel (Zr.zo hz) hW
  have HZR := Lib.hid hz
  have HV := Lib.hid hv
  have HL := Lib.hid hl
  have HA := Lib.hid hA
  have kk : (k : Int) ≤ 25 := by omega
  have HO2 := Lib.hid ho2
  have HC2 := Lib.hid hc2
  clear hown hz hv hl ho2 hc2 hA
  obtain ⟨L, hL⟩ : ∃ L, cln (1 + P) l = L := ⟨_, rfl⟩
  have hlen : L.length = (uts l).length := by rw [← hL, cln_len, uts_len]
  obtain ⟨nb, hnb⟩ : ∃ x, (uts l).length = x := ⟨_, rfl⟩
  rw [hnb] at hlen
  have hnk : nb ≤ k := by have := uts_le l; have := HL.out; omega
  have HLN := Lib.hid hlen
  have HVL : Hid (Vrs L) := by show Vrs L; rw [← hL]; exact cln_vrs HV.out _
  have HNB := Lib.hid hnb
  have HLL := Lib.hid hL
  have HCC : Hid (cln (1 + Q) L = L) := by show _ = _; rw [← hL, cln_cln]
  have HG1 : Hid (∀ q ∈ grs L, q.length ≤ 1) := by show ∀ q ∈ grs L, q.length ≤ 1; rw [← hL]; exact grs_cln _ _
  have HST : Hid (∀ i, i < nb → 0 < (vs l (tm L i)).length ∧ ∀ j, j < i → tm L j < tm L i) := by show ∀ i, i < nb → _; rw [← hL, ← hnb]; exact cln_steps _ _
  have HR0 : Hid (rpt (grs L) = []) := by show _ = _; rw [← hL]; exact rpt_cln _ _
  clear hlen hnb hL
  go_wp2_with fail
  go_at_call 10
  refine (clean_ok A ca k l (1 + P) (by omega) (by omega) (by omega) HV.out _ (HZ.out _ (by repeat (first | exact Bel.rf | (with_reducible refine Bel.drwN ?_ _) | (with_reducible refine Bel.drw ?_) | (with_reducible refine Bel.al ?_ _)))) HA.out (fun h => by omega)).mono ?_
  rintro e w3 ⟨vr, rfl, ho, hb⟩
  rw [HLL.out, HLN.out] at ho
  obtain ⟨A1, c1, rfl, hz1, hA1⟩ := own_zn ho HLN.out
  have HV3 : Hid (Bel v2 w3) := Bel.tr (by repeat (first | exact Bel.rf | (with_reducible refine Bel.drwN ?_ _) | (with_reducible refine Bel.drw ?_) | (with_reducible refine Bel.al ?_ _))) hb
  have HZ1 := Lib.hid hz1
  have HA1 := Lib.hid hA1
  clear ho hb hz1 hA1
  go_wp2_with fail
  go_at_call 10
  refine (clean_ok A1 c1 nb L (1 + Q) (by omega) (by omega) (by omega) HVL.out _ (Zo.bel (Zr.zo HZ1.out) (by repeat (first | exact Bel.rf | (with_reducible refine Bel.drwN ?_ _) | (with_reducible refine Bel.drw ?_) | (with_reducible refine Bel.al ?_ _)))) HA1.out (fun _ => HG1.out)).mono ?_
  rintro e w4 ⟨vr, rfl, ho, hb⟩
  rw [HCC.out, HLN.out] at ho
  obtain ⟨A2, c2, rfl, hz2, _⟩ := own_zn ho HLN.out
  have HV4 : Hid (Bel v2 w4) := HV3.out.tr (Bel.tr (by repeat (first | exact Bel.rf | (with_reducible refine Bel.drwN ?_ _) | (with_reducible refine Bel.drw ?_) | (with_reducible refine Bel.al ?_ _))) hb)
  have HZ2 : Hid (∀ W, Bel w4 W → Zr W A1 nb L ∧ Zr W A2 nb L) := fun W hW => ⟨(HZ1.out.bel (Bel.tr (by repeat (first | exact Bel.rf | (with_reducible refine Bel.drwN ?_ _) | (with_reducible refine Bel.drw ?_) | (with_reducible refine Bel.al ?_ _))) hb)).bel hW, hz2.bel hW⟩
  clear ho hb hz2 HLL
  go_wp2_with (first
    | (go_at_call 11; refine (same_ok A1 A2 _ _ nb nb L L (by omega) (by omega) _ (HZ2.out _ (by repeat (first | exact Bel.rf | (with_reducible refine Bel.drwN ?_ _) | (with_reducible refine Bel.drw ?_) | (with_reducible refine Bel.al ?_ _)))).1 (HZ2.out _ (by repeat (first | exact Bel.rf | (with_reducible refine Bel.drwN ?_ _) | (with_reducible refine Bel.drw ?_) | (with_reducible refine Bel.al ?_ _)))).2).mono ?_; rintro e w5 ⟨rfl, hb5⟩; have dd : decide (L = L) = true := decide_eq_true rfl; rw [dd]; have HB5 : Hid (Bel w4 w5) := Bel.tr (by repeat (first | exact Bel.rf | (with_reducible refine Bel.drwN ?_ _) | (with_reducible refine Bel.drw ?_) | (with_reducible refine Bel.al ?_ _))) hb5; clear hb5 dd)
    | (go_at_call 13; refine (repeated_ok A1 c1 nb L (by omega) HVL.out _ (Zr.zo (HZ2.out _ (by repeat (first | exact HB5.out | (with_reducible refine Bel.drwN ?_ _) | (with_reducible refine Bel.drw ?_) | (with_reducible refine Bel.al ?_ _)))).1) HA1.out).mono ?_; rintro e w6 ⟨v6, rfl, ho6, hb6⟩; rw [HR0.out] at ho6; obtain ⟨A6, c6, rfl, _⟩ := own_any ho6; have HB6 : Hid (Bel w4 w6) := Bel.tr (by repeat (first | exact HB5.out | (with_reducible refine Bel.drwN ?_ _) | (with_reducible refine Bel.drw ?_) | (with_reducible refine Bel.al ?_ _))) hb6; clear hb6 ho6))
  go_loopw [58] (fun s58 wr => ∃ (i : Nat) (V : World), V = wr ∧ i ≤ nb ∧ s58 = .int .i64 (i : Int) ∧ Bel w4 wr) (fun s58 _ => nb - (intOf s58).toNat)
  case atStart => exact ⟨0, _, rfl, by omega, rfl, (by repeat (first | exact HB6.out | (with_reducible refine Bel.drwN ?_ _) | (with_reducible refine Bel.drw ?_) | (with_reducible refine Bel.al ?_ _)))⟩
  case round =>
    obtain ⟨i, wr, hwr, hin, rfl, hb⟩ := hrel
    subst hwr
    have HB := Lib.hid hb
    have HX : Hid (∀ W, Bel wr W → Zo W A k l) := fun W hW => HZ.out W ((HV4.out.tr hb).tr hW)
    clear hb
    rcases Nat.lt_or_ge i nb with hlt | hge
    · obtain ⟨ga, e, hga, hc⟩ := (HZ2.out wr HB.out).1.2 (by omega)
      subst e
      obtain ⟨c1, _⟩ := hc i hlt
      obtain ⟨hs1, hs2⟩ := HST.out i hlt
      obtain ⟨u, hu⟩ : ∃ x, tm L i = x := ⟨_, rfl⟩
      rw [hu] at c1 hs1 hs2
      have HVL : Hid (∀ W, Bel wr W → Calls Try.prog 14 #[.slice A k ca, .int .i64 u] W fun e w' => ∃ a m c, e = .returned (.slice a m c) ∧ 0 < m ∧ Bel W w') := fun W hW => by
        refine (values_ok A ca k l u (by omega) W (HX.out W hW)).mono ?_
        rintro e w' ⟨v, rfl, ho, hb⟩
        obtain ⟨a, c, rfl, _⟩ := own_any ho
        exact ⟨a, _, c, rfl, hs1, hb⟩
      clear hu hs1
      rcases Nat.eq_zero_or_pos i with hi0 | hi0
      · subst hi0
        have c1' : wr.cell? (⟨ga, 0, none⟩ : Addr) = some (.int .i64 u) := by simpa using c1
        have ii : (0 : Int) < (nb : Int) := by omega
        clear hc c1 hs2
        have HKS : Hid (∀ W, Bel wr W → Bel wr W ∧ W.cell? (⟨ga, 0, none⟩ : Addr) = some (.int .i64 u)) := fun W hW => ⟨hW, hW.kp c1'⟩
        go_wp2
        refine wp_region_noPanic ?_
        refine wp_region_held_drew (S := fun W => Bel wr W ∧ W.cell? (⟨ga, 0, none⟩ : Addr) = some (.int .i64 u)) (by kernel_rfl) ?_ (fun hH0 => ?_)
        · (try dsimp only); (refine HKS.out _ ?_; repeat (first | exact HBX.out | exact Bel.rf | (with_reducible refine Bel.drwN ?_ _) | (with_reducible refine Bel.drw ?_)))
        refine wpAnyH_take (i := 0) (oi := ⟨some 61, .move (.tmp 14), 3, "law.go:74", #[], none⟩) (v := ?_) rfl (by kernel_rfl) (by kernel_rfl) (by kernel_rfl) (fun _ _ _ h => h) (Or.inl ⟨by first | kernel_rfl | rfl, ?_⟩) (by assumption) ?_
        rotate_left
        · (intro w hSw; (try dsimp only at hSw); obtain ⟨_, d1⟩ := hSw; go_simp; try with_reducible rfl)
        try simp only [Act.put, List.setIfInBounds_toArray, List.set_cons_zero, List.set_cons_succ]
        refine wpAnyH_take (i := 1) (oi := ⟨some 62, .binOp BinOp.gtr 3 (.tmp 61) (.const (.int IntKind.i64 0)) 3, 4, "law.go:74", #[⟨0, .data⟩], none⟩) (v := ?_) rfl (by kernel_rfl) (by kernel_rfl) (by kernel_rfl) (fun _ _ _ h => h) (Or.inl ⟨by first | kernel_rfl | rfl, ?_⟩) (by assumption) ?_
        rotate_left
        · (intro w hSw; (try dsimp only at hSw); obtain ⟨_, d1⟩ := hSw; go_simp; try with_reducible rfl)
        try simp only [Act.put, List.setIfInBounds_toArray, List.set_cons_zero, List.set_cons_succ]
        refine wpAnyH_take (i := 2) (oi := ⟨some 63, .move (.tmp 62), 4, "law.go:74", #[⟨1, .data⟩], none⟩) (v := ?_) rfl (by kernel_rfl) (by kernel_rfl) (by kernel_rfl) (fun _ _ _ h => h) (Or.inl ⟨by first | kernel_rfl | rfl, ?_⟩) (by assumption) ?_
        rotate_left
        · (intro w hSw; (try dsimp only at hSw); obtain ⟨_, d1⟩ := hSw; go_simp; try with_reducible rfl)
        try simp only [Act.put, List.setIfInBounds_toArray, List.set_cons_zero, List.set_cons_succ]
        refine wpAnyH_take (i := 3) (oi := ⟨some 64, .move (.tmp 10), 23, "law.go:74", #[⟨2, .guard⟩], some (2, Bool.true)⟩) (v := undef) rfl (by kernel_rfl) (by kernel_rfl) (by kernel_rfl) (fun _ _ _ h => h) (Or.inr ⟨by first | kernel_rfl | rfl, rfl⟩) (by assumption) ?_
        try simp only [Act.put, List.setIfInBounds_toArray, List.set_cons_zero, List.set_cons_succ]
        refine wpAnyH_take (i := 4) (oi := ⟨some 65, .move (.tmp 14), 3, "law.go:74", #[⟨2, .guard⟩], some (2, Bool.true)⟩) (v := undef) rfl (by kernel_rfl) (by kernel_rfl) (by kernel_rfl) (fun _ _ _ h => h) (Or.inr ⟨by first | kernel_rfl | rfl, rfl⟩) (by assumption) ?_
        try simp only [Act.put, List.setIfInBounds_toArray, List.set_cons_zero, List.set_cons_succ]
        refine wpAnyH_take (i := 5) (oi := ⟨some 66, .indexAddr 23 (.tmp 64) (.tmp 65), 0, "law.go:74", #[⟨3, .data⟩, ⟨4, .data⟩, ⟨2, .guard⟩], some (2, Bool.true)⟩) (v := undef) rfl (by kernel_rfl) (by kernel_rfl) (by kernel_rfl) (fun _ _ _ h => h) (Or.inr ⟨by first | kernel_rfl | rfl, rfl⟩) (by assumption) ?_
        try simp only [Act.put, List.setIfInBounds_toArray, List.set_cons_zero, List.set_cons_succ]
        refine wpAnyH_take (i := 6) (oi := ⟨some 67, .fieldAddr 28 (.tmp 66) 0, 0, "law.go:74", #[⟨5, .data⟩, ⟨2, .guard⟩], some (2, Bool.true)⟩) (v := undef) rfl (by kernel_rfl) (by kernel_rfl) (by kernel_rfl) (fun _ _ _ h => h) (Or.inr ⟨by first | kernel_rfl | rfl, rfl⟩) (by assumption) ?_
        try simp only [Act.put, List.setIfInBounds_toArray, List.set_cons_zero, List.set_cons_succ]
        refine wpAnyH_take (i := 7) (oi := ⟨some 68, .load 3 (.tmp 67), 3, "law.go:74", #[⟨6, .data⟩, ⟨2, .guard⟩], some (2, Bool.true)⟩) (v := undef) rfl (by kernel_rfl) (by kernel_rfl) (by kernel_rfl) (fun _ _ _ h => h) (Or.inr ⟨by first | kernel_rfl | rfl, rfl⟩) (by assumption) ?_
        try simp only [Act.put, List.setIfInBounds_toArray, List.set_cons_zero, List.set_cons_succ]
        refine wpAnyH_take (i := 8) (oi := ⟨some 69, .move (.tmp 10), 23, "law.go:74", #[⟨2, .guard⟩], some (2, Bool.true)⟩) (v := undef) rfl (by kernel_rfl) (by kernel_rfl) (by kernel_rfl) (fun _ _ _ h => h) (Or.inr ⟨by first | kernel_rfl | rfl, rfl⟩) (by assumption) ?_
        try simp only [Act.put, List.setIfInBounds_toArray, List.set_cons_zero, List.set_cons_succ]
        refine wpAnyH_take (i := 9) (oi := ⟨some 70, .move (.tmp 14), 3, "law.go:74", #[⟨2, .guard⟩], some (2, Bool.true)⟩) (v := undef) rfl (by kernel_rfl) (by kernel_rfl) (by kernel_rfl) (fun _ _ _ h => h) (Or.inr ⟨by first | kernel_rfl | rfl, rfl⟩) (by assumption) ?_
        try simp only [Act.put, List.setIfInBounds_toArray, List.set_cons_zero, List.set_cons_succ]
        refine wpAnyH_take (i := 10) (oi := ⟨some 71, .binOp BinOp.sub 3 (.tmp 70) (.const (.int IntKind.i64 1)) 3, 3, "law.go:74", #[⟨9, .data⟩, ⟨2, .guard⟩], some (2, Bool.true)⟩) (v := undef) rfl (by kernel_rfl) (by kernel_rfl) (by kernel_rfl) (fun _ _ _ h => h) (Or.inr ⟨by first | kernel_rfl | rfl, rfl⟩) (by assumption) ?_
        try simp only [Act.put, List.setIfInBounds_toArray, List.set_cons_zero, List.set_cons_succ]
        refine wpAnyH_take (i := 11) (oi := ⟨some 72, .indexAddr 23 (.tmp 69) (.tmp 71), 0, "law.go:74", #[⟨8, .data⟩, ⟨10, .data⟩, ⟨2, .guard⟩], some (2, Bool.true)⟩) (v := undef) rfl (by kernel_rfl) (by kernel_rfl) (by kernel_rfl) (fun _ _ _ h => h) (Or.inr ⟨by first | kernel_rfl | rfl, rfl⟩) (by assumption) ?_
        try simp only [Act.put, List.setIfInBounds_toArray, List.set_cons_zero, List.set_cons_succ]
        refine wpAnyH_take (i := 12) (oi := ⟨some 73, .fieldAddr 28 (.tmp 72) 0, 0, "law.go:74", #[⟨11, .data⟩, ⟨2, .guard⟩], some (2, Bool.true)⟩) (v := undef) rfl (by kernel_rfl) (by kernel_rfl) (by kernel_rfl) (fun _ _ _ h => h) (Or.inr ⟨by first | kernel_rfl | rfl, rfl⟩) (by assumption) ?_
        try simp only [Act.put, List.setIfInBounds_toArray, List.set_cons_zero, List.set_cons_succ]
        refine wpAnyH_take (i := 13) (oi := ⟨some 74, .load 3 (.tmp 73), 3, "law.go:74", #[⟨12, .data⟩, ⟨2, .guard⟩], some (2, Bool.true)⟩) (v := undef) rfl (by kernel_rfl) (by kernel_rfl) (by kernel_rfl) (fun _ _ _ h => h) (Or.inr ⟨by first | kernel_rfl | rfl, rfl⟩) (by assumption) ?_
        try simp only [Act.put, List.setIfInBounds_toArray, List.set_cons_zero, List.set_cons_succ]
        refine wpAnyH_take (i := 14) (oi := ⟨some 75, .binOp BinOp.leq 3 (.tmp 68) (.tmp 74) 3, 4, "law.go:74", #[⟨7, .data⟩, ⟨13, .data⟩, ⟨2, .guard⟩], some (2, Bool.true)⟩) (v := undef) rfl (by kernel_rfl) (by kernel_rfl) (by kernel_rfl) (fun _ _ _ h => h) (Or.inr ⟨by first | kernel_rfl | rfl, rfl⟩) (by assumption) ?_
        try simp only [Act.put, List.setIfInBounds_toArray, List.set_cons_zero, List.set_cons_succ]
        refine wpAnyH_take (i := 15) (oi := ⟨some 76, .pick (.tmp 63) (.tmp 75) (.const (.bool Bool.false)), 4, "law.go:74", #[⟨2, .data⟩, ⟨14, .data⟩], none⟩) (v := ?_) rfl (by kernel_rfl) (by kernel_rfl) (by kernel_rfl) (fun _ _ _ h => h) (Or.inl ⟨by first | kernel_rfl | rfl, ?_⟩) (by assumption) ?_
        rotate_left
        · (intro w hSw; (try dsimp only at hSw); obtain ⟨_, d1⟩ := hSw; go_simp; try with_reducible rfl)
        try simp only [Act.put, List.setIfInBounds_toArray, List.set_cons_zero, List.set_cons_succ]
        refine wpAnyH_take (i := 16) (oi := ⟨some 77, .move (.tmp 76), 4, "law.go:74", #[⟨15, .data⟩, ⟨2, .chain⟩], none⟩) (v := ?_) rfl (by kernel_rfl) (by kernel_rfl) (by kernel_rfl) (fun _ _ _ h => h) (Or.inl ⟨by first | kernel_rfl | rfl, ?_⟩) (by assumption) ?_
        rotate_left
        · (intro w hSw; (try dsimp only at hSw); obtain ⟨_, d1⟩ := hSw; go_simp; try with_reducible rfl)
        try simp only [Act.put, List.setIfInBounds_toArray, List.set_cons_zero, List.set_cons_succ]
        refine wpAnyH_take (i := 17) (oi := ⟨some 78, .move (.tmp 7), 23, "law.go:74", #[⟨16, .guard⟩], some (16, Bool.false)⟩) (v := ?_) rfl (by kernel_rfl) (by kernel_rfl) (by kernel_rfl) (fun _ _ _ h => h) (Or.inl ⟨by first | kernel_rfl | rfl, ?_⟩) (by assumption) ?_
        rotate_left
        · (intro w hSw; (try dsimp only at hSw); obtain ⟨_, d1⟩ := hSw; go_simp; try with_reducible rfl)
        try simp only [Act.put, List.setIfInBounds_toArray, List.set_cons_zero, List.set_cons_succ]
        refine wpAnyH_take (i := 18) (oi := ⟨some 79, .move (.tmp 10), 23, "law.go:74", #[⟨16, .guard⟩], some (16, Bool.false)⟩) (v := ?_) rfl (by kernel_rfl) (by kernel_rfl) (by kernel_rfl) (fun _ _ _ h => h) (Or.inl ⟨by first | kernel_rfl | rfl, ?_⟩) (by assumption) ?_
        rotate_left
        · (intro w hSw; (try dsimp only at hSw); obtain ⟨_, d1⟩ := hSw; go_simp; try with_reducible rfl)
        try simp only [Act.put, List.setIfInBounds_toArray, List.set_cons_zero, List.set_cons_succ]
        refine wpAnyH_take (i := 19) (oi := ⟨some 80, .move (.tmp 14), 3, "law.go:74", #[⟨16, .guard⟩], some (16, Bool.false)⟩) (v := ?_) rfl (by kernel_rfl) (by kernel_rfl) (by kernel_rfl) (fun _ _ _ h => h) (Or.inl ⟨by first | kernel_rfl | rfl, ?_⟩) (by assumption) ?_
        rotate_left
        · (intro w hSw; (try dsimp only at hSw); obtain ⟨_, d1⟩ := hSw; go_simp; try with_reducible rfl)
        try simp only [Act.put, List.setIfInBounds_toArray, List.set_cons_zero, List.set_cons_succ]
        refine wpAnyH_take (i := 20) (oi := ⟨some 81, .indexAddr 23 (.tmp 79) (.tmp 80), 0, "law.go:74", #[⟨18, .data⟩, ⟨19, .data⟩, ⟨16, .guard⟩], some (16, Bool.false)⟩) (v := ?_) rfl (by kernel_rfl) (by kernel_rfl) (by kernel_rfl) (fun _ _ _ h => h) (Or.inl ⟨by first | kernel_rfl | rfl, ?_⟩) (by assumption) ?_
        rotate_left
        · (intro w hSw; (try dsimp only at hSw); obtain ⟨_, d1⟩ := hSw; go_simp; try with_reducible rfl)
        try simp only [Act.put, List.setIfInBounds_toArray, List.set_cons_zero, List.set_cons_succ]
        refine wpAnyH_take (i := 21) (oi := ⟨some 82, .fieldAddr 28 (.tmp 81) 0, 0, "law.go:74", #[⟨20, .data⟩, ⟨16, .guard⟩], some (16, Bool.false)⟩) (v := ?_) rfl (by kernel_rfl) (by kernel_rfl) (by kernel_rfl) (fun _ _ _ h => h) (Or.inl ⟨by first | kernel_rfl | rfl, ?_⟩) (by assumption) ?_
        rotate_left
        · (intro w hSw; (try dsimp only at hSw); obtain ⟨_, d1⟩ := hSw; go_simp; try with_reducible rfl)
        try simp only [Act.put, List.setIfInBounds_toArray, List.set_cons_zero, List.set_cons_succ]
        refine wpAnyH_take (i := 22) (oi := ⟨some 83, .load 3 (.tmp 82), 3, "law.go:74", #[⟨21, .data⟩, ⟨16, .guard⟩], some (16, Bool.false)⟩) (v := ?_) rfl (by kernel_rfl) (by kernel_rfl) (by kernel_rfl) (fun _ _ _ h => h) (Or.inl ⟨by first | kernel_rfl | rfl, ?_⟩) (by assumption) ?_
        rotate_left
        · (intro w hSw; (try dsimp only at hSw); obtain ⟨_, d1⟩ := hSw; go_simp; try with_reducible rfl)
        try simp only [Act.put, List.setIfInBounds_toArray, List.set_cons_zero, List.set_cons_succ]
        refine wpAnyH_ready (rs := [23]) (by kernel_rfl) (by simp) ?_
        refine AllReadyH.cons (o := ⟨some 84, .call { callee := Callee.value (.func 14), args := #[.tmp 78, .tmp 83], argTypes := #[23, 3] }, 22, "law.go:74", #[⟨17, .data⟩, ⟨22, .data⟩, ⟨16, .chain⟩, ⟨16, .guard⟩], some (16, Bool.false)⟩) rfl (fun K hK => ?_) AllReadyH.nil
        go_simp
        go_at_call 14; refine (HVL.out _ (by repeat (first | exact Bel.rf | (with_reducible refine Bel.drwN ?_ _) | (with_reducible refine Bel.drw ?_) | (with_reducible refine Bel.al ?_ _)))).mono ?_; rintro e wz ⟨a9, m9, c9, rfl, hm9, hbz⟩; have HBX : Hid (Bel wr wz) := Bel.tr (by repeat (first | exact Bel.rf | (with_reducible refine Bel.drwN ?_ _) | (with_reducible refine Bel.drw ?_) | (with_reducible refine Bel.al ?_ _))) hbz; have m9z : ((m9 : Int) == 0) = false := (by first | (simp; done) | (simp; omega)); have m9n : ¬ m9 = 0 := (by omega); clear hbz hm9
        try go_wp2_with fail
        refine hK.out _ _ ?_ (fun hH1 => ?_)
        · (try dsimp only); (refine HKS.out _ ?_; repeat (first | exact HBX.out | exact Bel.rf | (with_reducible refine Bel.drwN ?_ _) | (with_reducible refine Bel.drw ?_)))
        clear hK K hH0
        try simp only [Act.put, List.setIfInBounds_toArray, List.set_cons_zero, List.set_cons_succ]
        refine wpAnyH_take (i := 24) (oi := ⟨some 85, .call { callee := Callee.builtin Builtin.len, args := #[.tmp 84], argTypes := #[22] }, 3, "law.go:74", #[⟨23, .data⟩, ⟨16, .guard⟩], some (16, Bool.false)⟩) (v := ?_) rfl (by kernel_rfl) (by kernel_rfl) (by kernel_rfl) (fun _ _ _ h => h) (Or.inl ⟨by first | kernel_rfl | rfl, ?_⟩) (by assumption) ?_
        rotate_left
        · (intro w hSw; (try dsimp only at hSw); obtain ⟨_, d1⟩ := hSw; go_simp; try with_reducible rfl)
        try simp only [Act.put, List.setIfInBounds_toArray, List.set_cons_zero, List.set_cons_succ]
        refine wpAnyH_take (i := 25) (oi := ⟨some 86, .binOp BinOp.eql 3 (.tmp 85) (.const (.int IntKind.i64 0)) 3, 4, "law.go:74", #[⟨24, .data⟩, ⟨16, .guard⟩], some (16, Bool.false)⟩) (v := ?_) rfl (by kernel_rfl) (by kernel_rfl) (by kernel_rfl) (fun _ _ _ h => h) (Or.inl ⟨by first | kernel_rfl | rfl, ?_⟩) (by assumption) ?_
        rotate_left
        · (intro w hSw; (try dsimp only at hSw); obtain ⟨_, d1⟩ := hSw; go_simp; try with_reducible rfl)
        try simp only [Act.put, List.setIfInBounds_toArray, List.set_cons_zero, List.set_cons_succ]
        refine wpAnyH_take (i := 26) (oi := ⟨some 87, .pick (.tmp 77) (.const (.bool Bool.true)) (.tmp 86), 4, "law.go:74", #[⟨16, .data⟩, ⟨25, .data⟩], none⟩) (v := ?_) rfl (by kernel_rfl) (by kernel_rfl) (by kernel_rfl) (fun _ _ _ h => h) (Or.inl ⟨by first | kernel_rfl | rfl, ?_⟩) (by assumption) ?_
        rotate_left
        · (intro w hSw; (try dsimp only at hSw); obtain ⟨_, d1⟩ := hSw; go_simp; try with_reducible rfl)
        try simp only [Act.put, List.setIfInBounds_toArray, List.set_cons_zero, List.set_cons_succ]
        refine wpAnyH_done (by kernel_rfl) ?_ _
        refine NoPanic.normal ?_
        go_wp2
        go_roundw
        case rel => exact ⟨0 + 1, _, rfl, by omega, by go_num, (by repeat (first | exact HB.out.tr HBX.out | (with_reducible refine Bel.drwN ?_ _) | (with_reducible refine Bel.drw ?_) | (with_reducible refine Bel.al ?_ _)))⟩
        case measure => simp [intOf]; omega
      · obtain ⟨j, hj⟩ : ∃ j, i = j + 1 := ⟨i - 1, by omega⟩
        have hlt2 := hs2 j (by omega)
        obtain ⟨c2, _⟩ := hc j (by omega)
        obtain ⟨x, hx⟩ : ∃ x, tm L j = x := ⟨_, rfl⟩
        rw [hx] at c2 hlt2
        have ii : (i : Int) < (nb : Int) := by omega
        have i0 : (0 : Int) ≤ (i : Int) := by omega
        have jn : (j : Int) < (nb : Int) := by omega
        have j0 : (0 : Int) ≤ (j : Int) := by omega
        have ji : (i : Int) - 1 = (j : Int) := by omega
        have jw : IntKind.i64.wrap (j : Int) = (j : Int) := IntWalk.i64_in _ (by omega)
        have jw2 : IntKind.i64.wrap ((i : Int) - 1) = (j : Int) := by rw [ji]; exact jw
        have ip : (i : Int) > 0 := by omega
        have ip' : decide ((i : Int) > 0) = true := decide_eq_true ip
        have tu : ¬ u ≤ x := by omega
        have tu' : decide (u ≤ x) = false := decide_eq_false tu
        clear hc hx hj hs2
        have HKS : Hid (∀ W, Bel wr W → Bel wr W ∧ W.cell? (⟨ga, i * 2, none⟩ : Addr) = some (.int .i64 u) ∧ W.cell? (⟨ga, j * 2, none⟩ : Addr) = some (.int .i64 x)) := fun W hW => ⟨hW, hW.kp c1, hW.kp c2⟩
        go_wp2
        refine wp_region_noPanic ?_
        refine wp_region_held_drew (S := fun W => Bel wr W ∧ W.cell? (⟨ga, i * 2, none⟩ : Addr) = some (.int .i64 u) ∧ W.cell? (⟨ga, j * 2, none⟩ : Addr) = some (.int .i64 x)) (by kernel_rfl) ?_ (fun hH0 => ?_)
        · (try dsimp only); (refine HKS.out _ ?_; repeat (first | exact HBX.out | exact Bel.rf | (with_reducible refine Bel.drwN ?_ _) | (with_reducible refine Bel.drw ?_)))
        refine wpAnyH_take (i := 0) (oi := ⟨some 61, .move (.tmp 14), 3, "law.go:74", #[], none⟩) (v := ?_) rfl (by kernel_rfl) (by kernel_rfl) (by kernel_rfl) (fun _ _ _ h => h) (Or.inl ⟨by first | kernel_rfl | rfl, ?_⟩) (by assumption) ?_
        rotate_left
        · (intro w hSw; (try dsimp only at hSw); obtain ⟨_, d1, d2⟩ := hSw; go_simp; try with_reducible rfl)
        try simp only [Act.put, List.setIfInBounds_toArray, List.set_cons_zero, List.set_cons_succ]
        refine wpAnyH_take (i := 1) (oi := ⟨some 62, .binOp BinOp.gtr 3 (.tmp 61) (.const (.int IntKind.i64 0)) 3, 4, "law.go:74", #[⟨0, .data⟩], none⟩) (v := ?_) rfl (by kernel_rfl) (by kernel_rfl) (by kernel_rfl) (fun _ _ _ h => h) (Or.inl ⟨by first | kernel_rfl | rfl, ?_⟩) (by assumption) ?_
        rotate_left
        · (intro w hSw; (try dsimp only at hSw); obtain ⟨_, d1, d2⟩ := hSw; go_simp; try with_reducible rfl)
        try simp only [Act.put, List.setIfInBounds_toArray, List.set_cons_zero, List.set_cons_succ]
        refine wpAnyH_take (i := 2) (oi := ⟨some 63, .move (.tmp 62), 4, "law.go:74", #[⟨1, .data⟩], none⟩) (v := ?_) rfl (by kernel_rfl) (by kernel_rfl) (by kernel_rfl) (fun _ _ _ h => h) (Or.inl ⟨by first | kernel_rfl | rfl, ?_⟩) (by assumption) ?_
        rotate_left
        · (intro w hSw; (try dsimp only at hSw); obtain ⟨_, d1, d2⟩ := hSw; go_simp; try with_reducible rfl)
        try simp only [Act.put, List.setIfInBounds_toArray, List.set_cons_zero, List.set_cons_succ]
        refine wpAnyH_take (i := 3) (oi := ⟨some 64, .move (.tmp 10), 23, "law.go:74", #[⟨2, .guard⟩], some (2, Bool.true)⟩) (v := ?_) rfl (by kernel_rfl) (by kernel_rfl) (by kernel_rfl) (fun _ _ _ h => h) (Or.inl ⟨by first | kernel_rfl | rfl, ?_⟩) (by assumption) ?_
        rotate_left
        · (intro w hSw; (try dsimp only at hSw); obtain ⟨_, d1, d2⟩ := hSw; go_simp; try with_reducible rfl)
        try simp only [Act.put, List.setIfInBounds_toArray, List.set_cons_zero, List.set_cons_succ]
        refine wpAnyH_take (i := 4) (oi := ⟨some 65, .move (.tmp 14), 3, "law.go:74", #[⟨2, .guard⟩], some (2, Bool.true)⟩) (v := ?_) rfl (by kernel_rfl) (by kernel_rfl) (by kernel_rfl) (fun _ _ _ h => h) (Or.inl ⟨by first | kernel_rfl | rfl, ?_⟩) (by assumption) ?_
        rotate_left
        · (intro w hSw; (try dsimp only at hSw); obtain ⟨_, d1, d2⟩ := hSw; go_simp; try with_reducible rfl)
        try simp only [Act.put, List.setIfInBounds_toArray, List.set_cons_zero, List.set_cons_succ]
        refine wpAnyH_take (i := 5) (oi := ⟨some 66, .indexAddr 23 (.tmp 64) (.tmp 65), 0, "law.go:74", #[⟨3, .data⟩, ⟨4, .data⟩, ⟨2, .guard⟩], some (2, Bool.true)⟩) (v := ?_) rfl (by kernel_rfl) (by kernel_rfl) (by kernel_rfl) (fun _ _ _ h => h) (Or.inl ⟨by first | kernel_rfl | rfl, ?_⟩) (by assumption) ?_
        rotate_left
        · (intro w hSw; (try dsimp only at hSw); obtain ⟨_, d1, d2⟩ := hSw; go_simp; try with_reducible rfl)
        try simp only [Act.put, List.setIfInBounds_toArray, List.set_cons_zero, List.set_cons_succ]
        refine wpAnyH_take (i := 6) (oi := ⟨some 67, .fieldAddr 28 (.tmp 66) 0, 0, "law.go:74", #[⟨5, .data⟩, ⟨2, .guard⟩], some (2, Bool.true)⟩) (v := ?_) rfl (by kernel_rfl) (by kernel_rfl) (by kernel_rfl) (fun _ _ _ h => h) (Or.inl ⟨by first | kernel_rfl | rfl, ?_⟩) (by assumption) ?_
        rotate_left
        · (intro w hSw; (try dsimp only at hSw); obtain ⟨_, d1, d2⟩ := hSw; go_simp; try with_reducible rfl)
        try simp only [Act.put, List.setIfInBounds_toArray, List.set_cons_zero, List.set_cons_succ]
        refine wpAnyH_take (i := 7) (oi := ⟨some 68, .load 3 (.tmp 67), 3, "law.go:74", #[⟨6, .data⟩, ⟨2, .guard⟩], some (2, Bool.true)⟩) (v := ?_) rfl (by kernel_rfl) (by kernel_rfl) (by kernel_rfl) (fun _ _ _ h => h) (Or.inl ⟨by first | kernel_rfl | rfl, ?_⟩) (by assumption) ?_
        rotate_left
        · (intro w hSw; (try dsimp only at hSw); obtain ⟨_, d1, d2⟩ := hSw; go_simp; try with_reducible rfl)
        try simp only [Act.put, List.setIfInBounds_toArray, List.set_cons_zero, List.set_cons_succ]
        refine wpAnyH_take (i := 8) (oi := ⟨some 69, .move (.tmp 10), 23, "law.go:74", #[⟨2, .guard⟩], some (2, Bool.true)⟩) (v := ?_) rfl (by kernel_rfl) (by kernel_rfl) (by kernel_rfl) (fun _ _ _ h => h) (Or.inl ⟨by first | kernel_rfl | rfl, ?_⟩) (by assumption) ?_
        rotate_left
        · (intro w hSw; (try dsimp only at hSw); obtain ⟨_, d1, d2⟩ := hSw; go_simp; try with_reducible rfl)
        try simp only [Act.put, List.setIfInBounds_toArray, List.set_cons_zero, List.set_cons_succ]
        refine wpAnyH_take (i := 9) (oi := ⟨some 70, .move (.tmp 14), 3, "law.go:74", #[⟨2, .guard⟩], some (2, Bool.true)⟩) (v := ?_) rfl (by kernel_rfl) (by kernel_rfl) (by kernel_rfl) (fun _ _ _ h => h) (Or.inl ⟨by first | kernel_rfl | rfl, ?_⟩) (by assumption) ?_
        rotate_left
        · (intro w hSw; (try dsimp only at hSw); obtain ⟨_, d1, d2⟩ := hSw; go_simp; try with_reducible rfl)
        try simp only [Act.put, List.setIfInBounds_toArray, List.set_cons_zero, List.set_cons_succ]
        refine wpAnyH_take (i := 10) (oi := ⟨some 71, .binOp BinOp.sub 3 (.tmp 70) (.const (.int IntKind.i64 1)) 3, 3, "law.go:74", #[⟨9, .data⟩, ⟨2, .guard⟩], some (2, Bool.true)⟩) (v := ?_) rfl (by kernel_rfl) (by kernel_rfl) (by kernel_rfl) (fun _ _ _ h => h) (Or.inl ⟨by first | kernel_rfl | rfl, ?_⟩) (by assumption) ?_
        rotate_left
        · (intro w hSw; (try dsimp only at hSw); obtain ⟨_, d1, d2⟩ := hSw; go_simp; try with_reducible rfl)
        try simp only [Act.put, List.setIfInBounds_toArray, List.set_cons_zero, List.set_cons_succ]
        refine wpAnyH_take (i := 11) (oi := ⟨some 72, .indexAddr 23 (.tmp 69) (.tmp 71), 0, "law.go:74", #[⟨8, .data⟩, ⟨10, .data⟩, ⟨2, .guard⟩], some (2, Bool.true)⟩) (v := ?_) rfl (by kernel_rfl) (by kernel_rfl) (by kernel_rfl) (fun _ _ _ h => h) (Or.inl ⟨by first | kernel_rfl | rfl, ?_⟩) (by assumption) ?_
        rotate_left
        · (intro w hSw; (try dsimp only at hSw); obtain ⟨_, d1, d2⟩ := hSw; go_simp; try with_reducible rfl)
        try simp only [Act.put, List.setIfInBounds_toArray, List.set_cons_zero, List.set_cons_succ]
        refine wpAnyH_take (i := 12) (oi := ⟨some 73, .fieldAddr 28 (.tmp 72) 0, 0, "law.go:74", #[⟨11, .data⟩, ⟨2, .guard⟩], some (2, Bool.true)⟩) (v := ?_) rfl (by kernel_rfl) (by kernel_rfl) (by kernel_rfl) (fun _ _ _ h => h) (Or.inl ⟨by first | kernel_rfl | rfl, ?_⟩) (by assumption) ?_
        rotate_left
        · (intro w hSw; (try dsimp only at hSw); obtain ⟨_, d1, d2⟩ := hSw; go_simp; try with_reducible rfl)
        try simp only [Act.put, List.setIfInBounds_toArray, List.set_cons_zero, List.set_cons_succ]
        refine wpAnyH_take (i := 13) (oi := ⟨some 74, .load 3 (.tmp 73), 3, "law.go:74", #[⟨12, .data⟩, ⟨2, .guard⟩], some (2, Bool.true)⟩) (v := ?_) rfl (by kernel_rfl) (by kernel_rfl) (by kernel_rfl) (fun _ _ _ h => h) (Or.inl ⟨by first | kernel_rfl | rfl, ?_⟩) (by assumption) ?_
        rotate_left
        · (intro w hSw; (try dsimp only at hSw); obtain ⟨_, d1, d2⟩ := hSw; go_simp; try with_reducible rfl)
        try simp only [Act.put, List.setIfInBounds_toArray, List.set_cons_zero, List.set_cons_succ]
        refine wpAnyH_take (i := 14) (oi := ⟨some 75, .binOp BinOp.leq 3 (.tmp 68) (.tmp 74) 3, 4, "law.go:74", #[⟨7, .data⟩, ⟨13, .data⟩, ⟨2, .guard⟩], some (2, Bool.true)⟩) (v := ?_) rfl (by kernel_rfl) (by kernel_rfl) (by kernel_rfl) (fun _ _ _ h => h) (Or.inl ⟨by first | kernel_rfl | rfl, ?_⟩) (by assumption) ?_
        rotate_left
        · (intro w hSw; (try dsimp only at hSw); obtain ⟨_, d1, d2⟩ := hSw; go_simp; try with_reducible rfl)
        try simp only [Act.put, List.setIfInBounds_toArray, List.set_cons_zero, List.set_cons_succ]
        refine wpAnyH_take (i := 15) (oi := ⟨some 76, .pick (.tmp 63) (.tmp 75) (.const (.bool Bool.false)), 4, "law.go:74", #[⟨2, .data⟩, ⟨14, .data⟩], none⟩) (v := ?_) rfl (by kernel_rfl) (by kernel_rfl) (by kernel_rfl) (fun _ _ _ h => h) (Or.inl ⟨by first | kernel_rfl | rfl, ?_⟩) (by assumption) ?_
        rotate_left
        · (intro w hSw; (try dsimp only at hSw); obtain ⟨_, d1, d2⟩ := hSw; go_simp; try with_reducible rfl)
        try simp only [Act.put, List.setIfInBounds_toArray, List.set_cons_zero, List.set_cons_succ]
        refine wpAnyH_take (i := 16) (oi := ⟨some 77, .move (.tmp 76), 4, "law.go:74", #[⟨15, .data⟩, ⟨2, .chain⟩], none⟩) (v := ?_) rfl (by kernel_rfl) (by kernel_rfl) (by kernel_rfl) (fun _ _ _ h => h) (Or.inl ⟨by first | kernel_rfl | rfl, ?_⟩) (by assumption) ?_
        rotate_left
        · (intro w hSw; (try dsimp only at hSw); obtain ⟨_, d1, d2⟩ := hSw; go_simp; try with_reducible rfl)
        try simp only [Act.put, List.setIfInBounds_toArray, List.set_cons_zero, List.set_cons_succ]
        refine wpAnyH_take (i := 17) (oi := ⟨some 78, .move (.tmp 7), 23, "law.go:74", #[⟨16, .guard⟩], some (16, Bool.false)⟩) (v := ?_) rfl (by kernel_rfl) (by kernel_rfl) (by kernel_rfl) (fun _ _ _ h => h) (Or.inl ⟨by first | kernel_rfl | rfl, ?_⟩) (by assumption) ?_
        rotate_left
        · (intro w hSw; (try dsimp only at hSw); obtain ⟨_, d1, d2⟩ := hSw; go_simp; try with_reducible rfl)
        try simp only [Act.put, List.setIfInBounds_toArray, List.set_cons_zero, List.set_cons_succ]
        refine wpAnyH_take (i := 18) (oi := ⟨some 79, .move (.tmp 10), 23, "law.go:74", #[⟨16, .guard⟩], some (16, Bool.false)⟩) (v := ?_) rfl (by kernel_rfl) (by kernel_rfl) (by kernel_rfl) (fun _ _ _ h => h) (Or.inl ⟨by first | kernel_rfl | rfl, ?_⟩) (by assumption) ?_
        rotate_left
        · (intro w hSw; (try dsimp only at hSw); obtain ⟨_, d1, d2⟩ := hSw; go_simp; try with_reducible rfl)
        try simp only [Act.put, List.setIfInBounds_toArray, List.set_cons_zero, List.set_cons_succ]
        refine wpAnyH_take (i := 19) (oi := ⟨some 80, .move (.tmp 14), 3, "law.go:74", #[⟨16, .guard⟩], some (16, Bool.false)⟩) (v := ?_) rfl (by kernel_rfl) (by kernel_rfl) (by kernel_rfl) (fun _ _ _ h => h) (Or.inl ⟨by first | kernel_rfl | rfl, ?_⟩) (by assumption) ?_
        rotate_left
        · (intro w hSw; (try dsimp only at hSw); obtain ⟨_, d1, d2⟩ := hSw; go_simp; try with_reducible rfl)
        try simp only [Act.put, List.setIfInBounds_toArray, List.set_cons_zero, List.set_cons_succ]
        refine wpAnyH_take (i := 20) (oi := ⟨some 81, .indexAddr 23 (.tmp 79) (.tmp 80), 0, "law.go:74", #[⟨18, .data⟩, ⟨19, .data⟩, ⟨16, .guard⟩], some (16, Bool.false)⟩) (v := ?_) rfl (by kernel_rfl) (by kernel_rfl) (by kernel_rfl) (fun _ _ _ h => h) (Or.inl ⟨by first | kernel_rfl | rfl, ?_⟩) (by assumption) ?_
        rotate_left
        · (intro w hSw; (try dsimp only at hSw); obtain ⟨_, d1, d2⟩ := hSw; go_simp; try with_reducible rfl)
        try simp only [Act.put, List.setIfInBounds_toArray, List.set_cons_zero, List.set_cons_succ]
        refine wpAnyH_take (i := 21) (oi := ⟨some 82, .fieldAddr 28 (.tmp 81) 0, 0, "law.go:74", #[⟨20, .data⟩, ⟨16, .guard⟩], some (16, Bool.false)⟩) (v := ?_) rfl (by kernel_rfl) (by kernel_rfl) (by kernel_rfl) (fun _ _ _ h => h) (Or.inl ⟨by first | kernel_rfl | rfl, ?_⟩) (by assumption) ?_
        rotate_left
        · (intro w hSw; (try dsimp only at hSw); obtain ⟨_, d1, d2⟩ := hSw; go_simp; try with_reducible rfl)
        try simp only [Act.put, List.setIfInBounds_toArray, List.set_cons_zero, List.set_cons_succ]
        refine wpAnyH_take (i := 22) (oi := ⟨some 83, .load 3 (.tmp 82), 3, "law.go:74", #[⟨21, .data⟩, ⟨16, .guard⟩], some (16, Bool.false)⟩) (v := ?_) rfl (by kernel_rfl) (by kernel_rfl) (by kernel_rfl) (fun _ _ _ h => h) (Or.inl ⟨by first | kernel_rfl | rfl, ?_⟩) (by assumption) ?_
        rotate_left
        · (intro w hSw; (try dsimp only at hSw); obtain ⟨_, d1, d2⟩ := hSw; go_simp; try with_reducible rfl)
        try simp only [Act.put, List.setIfInBounds_toArray, List.set_cons_zero, List.set_cons_succ]
        refine wpAnyH_ready (rs := [23]) (by kernel_rfl) (by simp) ?_
        refine AllReadyH.cons (o := ⟨some 84, .call { callee := Callee.value (.func 14), args := #[.tmp 78, .tmp 83], argTypes := #[23, 3] }, 22, "law.go:74", #[⟨17, .data⟩, ⟨22, .data⟩, ⟨16, .chain⟩, ⟨16, .guard⟩], some (16, Bool.false)⟩) rfl (fun K hK => ?_) AllReadyH.nil
        go_simp
        go_at_call 14; refine (HVL.out _ (by repeat (first | exact Bel.rf | (with_reducible refine Bel.drwN ?_ _) | (with_reducible refine Bel.drw ?_) | (with_reducible refine Bel.al ?_ _)))).mono ?_; rintro e wz ⟨a9, m9, c9, rfl, hm9, hbz⟩; have HBX : Hid (Bel wr wz) := Bel.tr (by repeat (first | exact Bel.rf | (with_reducible refine Bel.drwN ?_ _) | (with_reducible refine Bel.drw ?_) | (with_reducible refine Bel.al ?_ _))) hbz; have m9z : ((m9 : Int) == 0) = false := (by first | (simp; done) | (simp; omega)); have m9n : ¬ m9 = 0 := (by omega); clear hbz hm9
        try go_wp2_with fail
        refine hK.out _ _ ?_ (fun hH1 => ?_)
        · (try dsimp only); (refine HKS.out _ ?_; repeat (first | exact HBX.out | exact Bel.rf | (with_reducible refine Bel.drwN ?_ _) | (with_reducible refine Bel.drw ?_)))
        clear hK K hH0
        try simp only [Act.put, List.setIfInBounds_toArray, List.set_cons_zero, List.set_cons_succ]
        refine wpAnyH_take (i := 24) (oi := ⟨some 85, .call { callee := Callee.builtin Builtin.len, args := #[.tmp 84], argTypes := #[22] }, 3, "law.go:74", #[⟨23, .data⟩, ⟨16, .guard⟩], some (16, Bool.false)⟩) (v := ?_) rfl (by kernel_rfl) (by kernel_rfl) (by kernel_rfl) (fun _ _ _ h => h) (Or.inl ⟨by first | kernel_rfl | rfl, ?_⟩) (by assumption) ?_
        rotate_left
        · (intro w hSw; (try dsimp only at hSw); obtain ⟨_, d1, d2⟩ := hSw; go_simp; try with_reducible rfl)
        try simp only [Act.put, List.setIfInBounds_toArray, List.set_cons_zero, List.set_cons_succ]
        refine wpAnyH_take (i := 25) (oi := ⟨some 86, .binOp BinOp.eql 3 (.tmp 85) (.const (.int IntKind.i64 0)) 3, 4, "law.go:74", #[⟨24, .data⟩, ⟨16, .guard⟩], some (16, Bool.false)⟩) (v := ?_) rfl (by kernel_rfl) (by kernel_rfl) (by kernel_rfl) (fun _ _ _ h => h) (Or.inl ⟨by first | kernel_rfl | rfl, ?_⟩) (by assumption) ?_
        rotate_left
        · (intro w hSw; (try dsimp only at hSw); obtain ⟨_, d1, d2⟩ := hSw; go_simp; try with_reducible rfl)
        try simp only [Act.put, List.setIfInBounds_toArray, List.set_cons_zero, List.set_cons_succ]
        refine wpAnyH_take (i := 26) (oi := ⟨some 87, .pick (.tmp 77) (.const (.bool Bool.true)) (.tmp 86), 4, "law.go:74", #[⟨16, .data⟩, ⟨25, .data⟩], none⟩) (v := ?_) rfl (by kernel_rfl) (by kernel_rfl) (by kernel_rfl) (fun _ _ _ h => h) (Or.inl ⟨by first | kernel_rfl | rfl, ?_⟩) (by assumption) ?_
        rotate_left
        · (intro w hSw; (try dsimp only at hSw); obtain ⟨_, d1, d2⟩ := hSw; go_simp; try with_reducible rfl)
        try simp only [Act.put, List.setIfInBounds_toArray, List.set_cons_zero, List.set_cons_succ]
        refine wpAnyH_done (by kernel_rfl) ?_ _
        refine NoPanic.normal ?_
        go_wp2
        go_roundw
        case rel => exact ⟨i + 1, _, rfl, by omega, by go_num, (by repeat (first | exact HB.out.tr HBX.out | (with_reducible refine Bel.drwN ?_ _) | (with_reducible refine Bel.drw ?_) | (with_reducible refine Bel.al ?_ _)))⟩
        case measure => simp [intOf]; omega
    · obtain rfl : i = nb := by omega
      have HBT : Hid (Bel w wr) := (HB2.out.tr HV4.out).tr HB.out
      have HTM : Hid (∀ W, Bel wr W → Calls Try.prog 17 #[.slice A k ca] W fun e w' => ∃ B c, e = .returned (.slice B i c) ∧ Bel W w') := fun W hW => by
        refine (times_ok A ca k l (by omega) W (HX.out W hW)).mono ?_
        rintro e w' ⟨B, c, rfl, _, hb⟩
        rw [HNB.out]
        exact ⟨B, c, rfl, hb⟩
      have nn := ne_self (i : Int)
      go_wp2_with (first
        | (go_at_call 17; refine (HTM.out _ (by repeat (first | exact Bel.rf | (with_reducible refine Bel.drwN ?_ _) | (with_reducible refine Bel.drw ?_) | (with_reducible refine Bel.al ?_ _)))).mono ?_; rintro e w8 ⟨B8, c8, rfl, hb8⟩; have HB8 : Hid (Bel w w8) := HBT.out.tr (Bel.tr (by repeat (first | exact Bel.rf | (with_reducible refine Bel.drwN ?_ _) | (with_reducible refine Bel.drw ?_) | (with_reducible refine Bel.al ?_ _))) hb8); clear hb8)
        | (go_at_call 12; refine (AW.out _).mono ?_; rintro e w9 ⟨rfl, hb9⟩; have HB9 : Hid (Bel w w9) := HB8.out.tr (Bel.tr (by repeat (first | exact Bel.rf | (with_reducible refine Bel.drwN ?_ _) | (with_reducible refine Bel.drw ?_) | (with_reducible refine Bel.al ?_ _))) hb9); clear hb9))
      go_ret
      exact ⟨rfl, (show Bel w _ from (by repeat (first | exact HB9.out | (with_reducible refine Bel.drwN ?_ _) | (with_reducible refine Bel.drw ?_) | (with_reducible refine Bel.al ?_ _)))).bl⟩

set_option maxRecDepth 100000 in
theorem lifted (os : Os) (started : os.Started) (H : Type) (enc : TypeId × Value → H) :
    ReturnsInHanded {} Try.checked os 7 .any (Rows.cleanOnceSpec.pre6 enc Try.prog Try.f7 Rows.cleanOnceRow.domain false) (Rows.cleanOnceSpec.post enc Try.prog Try.f7 false true false false) := by
  refine returnsInHanded_of_change (C := Try.checked) own started (by kernel_rfl) Try.func7
    (ChangeSpec.witness6 (enc := enc) (C := Try.checked) false ⟨#[], #[.slice none 0 0, .int .u8 0, .int .u8 0], []⟩ 8 (by kernel_rfl) (by kernel_rfl) (by kernel_rfl) (by kernel_rfl)) ?_
  intro W base args ds gs before hval0 hW hcnd _
  have hval : ∀ (j : Nat) t v, Try.f7.params[j]? = some t → args[j]? = some v → Value.okWide Try.prog W .any base t v := hval0
  have hW' := hW
  obtain ⟨p, q, hA0, hV, rfl, hfz, hnd⟩ := hW
  have hA : DataW.TrodAll enc Try.prog W 0 (fun _ => true) true Try.f7.params.toList args.toList ds p := hA0
  rw [Try.params7] at hA hval
  obtain ⟨v0, vs0, d0, ds0, p0, q0, hargs, rfl, rfl, h0, r0⟩ := trodAll_cons hA
  obtain ⟨v1, vs1, d1, ds1, p1, q1, rfl, rfl, rfl, h1, r1⟩ := trodAll_cons r0
  obtain ⟨v2, vs2, d2, ds2, p2, q2, rfl, rfl, rfl, h2, r2⟩ := trodAll_cons r1
  obtain ⟨rfl, rfl, rfl⟩ := trodAll_nil r2
  obtain rfl : args = #[v0, v1, v2] := by cases args; simp_all
  obtain ⟨rfl, rfl⟩ := trodVars_none hV
  obtain ⟨a0, len0, cap0, rfl⟩ := okWide_slice Try.underlying22 (hval 0 22 v0 rfl rfl)
  have k0 := h0
  have lt0 : ∀ x ∈ p0, x.block < W.heap.size := by obtain ⟨m, hm⟩ := k0; exact DataW.trod_lt m _ _ _ hm
  obtain ⟨z0, w0⟩ : ∃ zs, IsRow .i64 W a0 len0 cap0 zs := by
    obtain ⟨fuel, hf⟩ := h0
    rcases open_ints Try.underlying22 Try.underlying3 (by kernel_rfl) hf with ⟨hcs, _⟩ | ⟨x, l, c, zs, hcs, _, hl, hm, hz, _, hcell, hwz⟩
    · simp [Value.cells] at hcs
      obtain ⟨rfl, rfl, rfl⟩ := hcs
      exact ⟨[], .inl ⟨rfl, rfl, rfl, rfl⟩⟩
    · simp [Value.cells] at hcs
      obtain ⟨rfl, rfl, rfl⟩ := hcs
      exact ⟨zs, .inr ⟨_, rfl, hl, hm, by simpa using hz, hcell, hwz⟩⟩
  obtain ⟨a1, rfl, rfl, rfl, w1⟩ := open_int Try.underlying5 (hval 1 5 v1 rfl rfl) h1
  obtain ⟨a2, rfl, rfl, rfl, w2⟩ := open_int Try.underlying5 (hval 2 5 v2 rfl rfl) h2
  clear hA0 hval0
  refine (walk a0 len0 cap0 z0 a1 a2 W w0 w1 w2).mono fun e W' ⟨he, bel⟩ => ?_
  subst he
  exact ⟨_, rfl, _, _, _, [], _, [], hW', trodAll_mk1 (shut_bool Try.underlying4 _), (trodAll_cons_mk (Below.trod laidOut (by kernel_rfl) (of_decide_eq_true (by kernel_rfl)) k0 bel lt0) (trodAll_cons_mk (shut_int Try.underlying5 w1) (trodAll_cons_mk (shut_int Try.underlying5 w2) trodAll_mk0))), rfl, bel.frame _, fun h => by cases h⟩

theorem over : Rows.cleanOnceRow.holds Try.pinned (OpenSpec.ofChange Rows.cleanOnceSpec) :=
  OpenClaim.holds_of_wide 7 Try.f7 rfl rfl rfl rfl rfl rfl rfl ⟨rfl, rfl, rfl, rfl, rfl⟩ rfl rfl rfl rfl rfl (by kernel_rfl) Try.func7 (by kernel_rfl)
    (of_decide_eq_true (by kernel_rfl)) (by unfold Func.isWrapper; first | (rw [if_pos (by decide +kernel)]; kernel_rfl) | (rw [if_neg (by decide +kernel)]; exact ⟨rfl, rfl⟩))
    (fun os started H enc _ => lifted os started H enc)

theorem proved : Rows.CleanOnceSaid := over
end Go.Proofs.Ytgcjangnlbhicaa.cleanOnce
