/- That the law WarpBands returns true for every input that can be read, and leaves its arguments as they were; no further condition. -/
import Derived.Test.YtkjffielnmdpcaaRows
import Derived.WalkKit
import Derived.ProofKit
import Derived.OpenShut
import Derived.Test.YtkjffielnmdpcaaWords
import Derived.Test.YtkjffielnmdpcaaSrcNew0
import Derived.Test.YtkjffielnmdpcaaWarp10
import Derived.Test.YtkjffielnmdpcaaRef12
import Derived.ShutString
import Derived.ChangeOld
import Derived.Below
namespace Go.Proofs.Ytkjffielnmdpcaa.warpBands
open Go.ChangeShapes Go.WideShapes Go.ChangeAt Go.RowKit Wo
open Go.ChangeMaps (open_string shut_string)
set_option linter.unusedVariables false

theorem own : ownKnob Try.prog.godebug = none := by kernel_rfl
theorem laidOut : laidOutB Try.prog = true := by kernel_rfl

/-- WHAT THE WALK IS TOLD OF A SLICE OF INTEGERS THAT CAME IN: it is nil; or it leads to a row of 'cap' cells, the numbers 'zs' (the first 'len' are its elements, the rest its spare room), each fitting its kind. -/
def IsRow (k : IntKind) (w : World) (a : Option Addr) (len cap : Nat) (zs : List Int) : Prop :=
  (a = none ∧ len = 0 ∧ cap = 0 ∧ zs = []) ∨
  ∃ x, a = some x ∧ len ≤ cap ∧ cap ≤ maxLen ∧ zs.length = cap ∧ (∀ i, i < zs.length → w.cell? (x.add i) = some (.int k (zs.getD i 0))) ∧ ∀ n ∈ zs, (Lit.int k n).wf = true

open Go.Proofs.Ytkjffielnmdpcaa.Wa Go.Proofs.Ytkjffielnmdpcaa.Ed Go.Proofs.Ytkjffielnmdpcaa.Wi Go.Proofs.Ytkjffielnmdpcaa.Wo Go.Proofs.Ytkjffielnmdpcaa.Sr in
set_option maxHeartbeats 4000000 in
set_option maxRecDepth 100000 in
theorem walk (a0 : Option Addr) (len0 cap0 : Nat) (z0 : List Int) (a1 : Int) (w : World) (w0 : IsRow .i64 w a0 len0 cap0 z0) (w1 : (Lit.int .u8 a1).wf = true) :
    Calls Try.prog 5 #[.slice a0 len0 cap0, .int .u8 a1] w fun e w' => e = .returned (.bool true) ∧ Below w.heap.size w w' := by
  obtain ⟨b0, b1⟩ := bounds_u8 w1
  clear w1
  have AW : Hid (∀ W, Calls Try.prog 20 #[] W fun e w' => e = .returned (.bool true) ∧ Bel W w') := awake_any
  go_enter Try.func5, Try.ntmps5
  go_wp2_with fail
  go_at_call 14
  refine (new_any a0 len0 cap0 z0 w w0).mono ?_
  rintro e v1 ⟨q, rfl, hq, ho1, hb1⟩
  have HO := Lib.hid ho1
  have HBa : Hid (Bel w v1) := hb1
  clear ho1 hb1
  go_wp2_with fail
  go_at_call 15
  refine (uneven_any q _ HO.out).mono ?_
  rintro e v2 ⟨xa, xb, ya, yb, n, m, L, M, k, rfl, n1, n2, m1, m2, hxy, hcx, hcy, k0, k1, k2, k3, hox, hoy, lL, lM, sL, sM, ho2, hc2⟩
  have HBb : Hid (Bel w v2) := Bel.ch HBa.out hc2 (by have := hq; omega)
  have zx : Zi v2 (some ⟨xa, 0, none⟩) n L := own_zi hox lL
  have zy : Zi v2 (some ⟨ya, 0, none⟩) m M := own_zi hoy lM
  have HOX := Lib.hid hox
  have HOY := Lib.hid hoy
  clear ho2 hc2
  have D1 : Hid (∀ W, Bel v2 W → _) := fun W hW => distance_ok (some ⟨xa, 0, none⟩) (some ⟨ya, 0, none⟩) xb yb n m L M k n1 n2 m1 m2 k0 k1 k2 k3 sL sM W (zx.bel hW) (zy.bel hW)
  have D2 : Hid (∀ W, Bel v2 W → _) := fun W hW => distance_ok (some ⟨ya, 0, none⟩) (some ⟨xa, 0, none⟩) yb xb m n M L k m1 m2 n1 n2 k0 k1 k3 k2 sM sL W (zy.bel hW) (zx.bel hW)
  obtain ⟨j, hj⟩ : ∃ j, min 32 (k + a1) = j := ⟨_, rfl⟩
  have hj2 : k ≤ j ∧ 0 ≤ j ∧ j ≤ 32 := by omega
  have D3 : Hid (∀ W, Bel v2 W → _) := fun W hW => distance_ok (some ⟨xa, 0, none⟩) (some ⟨ya, 0, none⟩) xb yb n m L M j n1 n2 m1 m2 hj2.2.1 hj2.2.2 (by omega) (by omega) sL sM W (zx.bel hW) (zy.bel hW)
  have DZ : Hid (n = m → ∀ W, Bel v2 W → _) := fun e W hW => distance_ok (some ⟨xa, 0, none⟩) (some ⟨ya, 0, none⟩) xb yb n m L M 0 n1 n2 m1 m2 (by omega) (by omega) (by omega) (by omega) sL sM W (zx.bel hW) (zy.bel hW)
  have DR : Hid (n = m → ∀ W, Bel v2 W → Calls Try.prog 22 #[.slice (some ⟨xa, 0, none⟩) n xb, .slice (some ⟨ya, 0, none⟩) m yb] W fun e w' => e = .returned (.tuple #[.int .i64 (wt L M 0 n m), .int .i64 0]) ∧ Bel W w') := fun e W hW => by
    subst e
    have h := R12.rdistance_ok (some ⟨xa, 0, none⟩) (some ⟨ya, 0, none⟩) xb yb n L M n1 n2 sL sM W (zx.bel hW) (zy.bel hW)
    rwa [show su sq (df L M) = wt L M 0 n n by
      rw [wt_zero sL sM (by rw [lL, lM]) n (by omega) (by omega), List.take_of_length_le (by rw [df_len (by rw [lL, lM]), lL]; exact Nat.le_refl _)]] at h
  have hs := wt_sym L M k _ n m rfl
  have hmo : wt L M j n m ≤ wt L M k n m := by
    have := wt_mono (b := k) (c := j) sL sM k0 hj2.1 (i := n - 1) (j := m - 1) (by omega) (by omega) ⟨by omega, by omega⟩
    rwa [show n - 1 + 1 = n by omega, show m - 1 + 1 = m by omega] at this
  have HMZ : Hid (n = m → wt L M k n m ≤ wt L M 0 n m) := fun e => by
    have := wt_mono (b := 0) (c := k) sL sM (by omega) k0 (i := n - 1) (j := m - 1) (by omega) (by omega) ⟨by omega, by omega⟩
    rwa [show n - 1 + 1 = n by omega, show m - 1 + 1 = m by omega] at this
  rw [← hs] at D2
  obtain ⟨a, ha⟩ : ∃ a, wt L M k n m = a := ⟨_, rfl⟩
  obtain ⟨c, hc⟩ : ∃ a, wt L M j n m = a := ⟨_, rfl⟩
  obtain ⟨d, hd⟩ : ∃ a, wt L M 0 n m = a := ⟨_, rfl⟩
  rw [ha] at D1 D2 hmo HMZ
  rw [hc] at D3 hmo
  rw [hd] at DZ DR HMZ
  have HALL := Lib.hid (And.intro ha (And.intro hc hd))
  have kb : wrap64 (k + a1) = k + a1 := IntWalk.wrap64_in _ (by omega)
  have HJ := Lib.hid (And.intro hj hj2)
  have kaa : (a != a) = false := by simp
  have nmc : ¬ a < c := by omega
  clear ha hc hd zx zy sL sM lL lM hox hoy hs hj2 w0
  go_wp2_with fail
  go_at_call 16
  refine (D1.out _ Bel.rf).mono ?_
  rintro e p1 ⟨rfl, hb⟩
  have HD_p1 : Hid (Bel v2 p1) := hb
  clear hb
  go_wp2_with fail
  go_at_call 16
  refine (D2.out _ HD_p1.out).mono ?_
  rintro e p2 ⟨rfl, hb⟩
  have HD_p2 : Hid (Bel v2 p2) := HD_p1.out.tr hb
  clear hb
  rcases Int.lt_trichotomy (k + a1) 32 with hk | hk | hk
  · obtain rfl : j = k + a1 := by have := HJ.out; omega
    clear HJ
    go_wp2_with fail
    go_at_call 16
    refine (D3.out _ HD_p2.out).mono ?_
    rintro e p3 ⟨rfl, hb⟩
    have HD_p3 : Hid (Bel v2 p3) := HD_p2.out.tr hb
    clear hb
    rcases Nat.lt_trichotomy n m with hnm | hnm | hnm
    · have nm1 : ¬ (n : Int) = (m : Int) := by omega
      have nm2 : ((n : Int) == (m : Int)) = false := by simp; omega
      go_wp2_with (go_at_call 20; refine (AW.out _).mono ?_; rintro e w9 ⟨rfl, hb9⟩)
      go_ret
      exact ⟨rfl, ((HBb.out.tr HD_p3.out).tr hb9).bl⟩
    · subst hnm
      go_wp2_with fail
      go_at_call 16
      refine (DZ.out (by first | trivial | rfl) _ HD_p3.out).mono ?_
      rintro e p4 ⟨rfl, hb⟩
      have HD_p4 : Hid (Bel v2 p4) := HD_p3.out.tr hb
      clear hb
      go_wp2_with fail
      go_at_call 22
      refine (DR.out (by first | trivial | rfl) _ HD_p4.out).mono ?_
      rintro e p5 ⟨rfl, hb⟩
      have HD_p5 : Hid (Bel v2 p5) := HD_p4.out.tr hb
      clear hb
      have had := HMZ.out (by first | trivial | rfl)
      have hadd : decide (a ≤ d) = true := decide_eq_true had
      have kdd : (d == d) = true := by simp
      go_wp2_with (go_at_call 20; refine (AW.out _).mono ?_; rintro e w9 ⟨rfl, hb9⟩)
      go_ret
      exact ⟨rfl, ((HBb.out.tr HD_p5.out).tr hb9).bl⟩
    · have nm1 : ¬ (n : Int) = (m : Int) := by omega
      have nm2 : ((n : Int) == (m : Int)) = false := by simp; omega
      go_wp2_with (go_at_call 20; refine (AW.out _).mono ?_; rintro e w9 ⟨rfl, hb9⟩)
      go_ret
      exact ⟨rfl, ((HBb.out.tr HD_p3.out).tr hb9).bl⟩
  · obtain rfl : j = 32 := by have := HJ.out; omega
    clear HJ
    go_wp2_with fail
    go_at_call 16
    refine (D3.out _ HD_p2.out).mono ?_
    rintro e p3 ⟨rfl, hb⟩
    have HD_p3 : Hid (Bel v2 p3) := HD_p2.out.tr hb
    clear hb
    rcases Nat.lt_trichotomy n m with hnm | hnm | hnm
    · have nm1 : ¬ (n : Int) = (m : Int) := by omega
      have nm2 : ((n : Int) == (m : Int)) = false := by simp; omega
      go_wp2_with (go_at_call 20; refine (AW.out _).mono ?_; rintro e w9 ⟨rfl, hb9⟩)
      go_ret
      exact ⟨rfl, ((HBb.out.tr HD_p3.out).tr hb9).bl⟩
    · subst hnm
      go_wp2_with fail
      go_at_call 16
      refine (DZ.out (by first | trivial | rfl) _ HD_p3.out).mono ?_
      rintro e p4 ⟨rfl, hb⟩
      have HD_p4 : Hid (Bel v2 p4) := HD_p3.out.tr hb
      clear hb
      go_wp2_with fail
      go_at_call 22
      refine (DR.out (by first | trivial | rfl) _ HD_p4.out).mono ?_
      rintro e p5 ⟨rfl, hb⟩
      have HD_p5 : Hid (Bel v2 p5) := HD_p4.out.tr hb
      clear hb
      have had := HMZ.out (by first | trivial | rfl)
      have hadd : decide (a ≤ d) = true := decide_eq_true had
      have kdd : (d == d) = true := by simp
      go_wp2_with (go_at_call 20; refine (AW.out _).mono ?_; rintro e w9 ⟨rfl, hb9⟩)
      go_ret
      exact ⟨rfl, ((HBb.out.tr HD_p5.out).tr hb9).bl⟩
    · have nm1 : ¬ (n : Int) = (m : Int) := by omega
      have nm2 : ((n : Int) == (m : Int)) = false := by simp; omega
      go_wp2_with (go_at_call 20; refine (AW.out _).mono ?_; rintro e w9 ⟨rfl, hb9⟩)
      go_ret
      exact ⟨rfl, ((HBb.out.tr HD_p3.out).tr hb9).bl⟩
  · obtain rfl : j = 32 := by have := HJ.out; omega
    clear HJ
    go_wp2_with fail
    go_at_call 16
    refine (D3.out _ HD_p2.out).mono ?_
    rintro e p3 ⟨rfl, hb⟩
    have HD_p3 : Hid (Bel v2 p3) := HD_p2.out.tr hb
    clear hb
    rcases Nat.lt_trichotomy n m with hnm | hnm | hnm
    · have nm1 : ¬ (n : Int) = (m : Int) := by omega
      have nm2 : ((n : Int) == (m : Int)) = false := by simp; omega
      go_wp2_with (go_at_call 20; refine (AW.out _).mono ?_; rintro e w9 ⟨rfl, hb9⟩)
      go_ret
      exact ⟨rfl, ((HBb.out.tr HD_p3.out).tr hb9).bl⟩
    · subst hnm
      go_wp2_with fail
      go_at_call 16
      refine (DZ.out (by first | trivial | rfl) _ HD_p3.out).mono ?_
      rintro e p4 ⟨rfl, hb⟩
      have HD_p4 : Hid (Bel v2 p4) := HD_p3.out.tr hb
      clear hb
      go_wp2_with fail
      go_at_call 22
      refine (DR.out (by first | trivial | rfl) _ HD_p4.out).mono ?_
      rintro e p5 ⟨rfl, hb⟩
      have HD_p5 : Hid (Bel v2 p5) := HD_p4.out.tr hb
      clear hb
      have had := HMZ.out (by first | trivial | rfl)
      have hadd : decide (a ≤ d) = true := decide_eq_true had
      have kdd : (d == d) = true := by simp
      go_wp2_with (go_at_call 20; refine (AW.out _).mono ?_; rintro e w9 ⟨rfl, hb9⟩)
      go_ret
      exact ⟨rfl, ((HBb.out.tr HD_p5.out).tr hb9).bl⟩
    · have nm1 : ¬ (n : Int) = (m : Int) := by omega
      have nm2 : ((n : Int) == (m : Int)) = false := by simp; omega
      go_wp2_with (go_at_call 20; refine (AW.out _).mono ?_; rintro e w9 ⟨rfl, hb9⟩)
      go_ret
      exact ⟨rfl, ((HBb.out.tr HD_p3.out).tr hb9).bl⟩

set_option maxRecDepth 100000 in
theorem lifted (os : Os) (started : os.Started) (H : Type) (enc : TypeId × Value → H) :
    ReturnsInHanded {} Try.checked os 5 .any (Rows.warpBandsSpec.pre6 enc Try.prog Try.f5 Rows.warpBandsRow.domain false) (Rows.warpBandsSpec.post enc Try.prog Try.f5 false true false false) := by
  refine returnsInHanded_of_change (C := Try.checked) own started (by kernel_rfl) Try.func5
    (ChangeSpec.witness6 (enc := enc) (C := Try.checked) false ⟨#[], #[.slice none 0 0, .int .u8 0], []⟩ 8 (by kernel_rfl) (by kernel_rfl) (by kernel_rfl) (by kernel_rfl)) ?_
  intro W base args ds gs before hval0 hW hcnd _
  have hval : ∀ (j : Nat) t v, Try.f5.params[j]? = some t → args[j]? = some v → Value.okWide Try.prog W .any base t v := hval0
  have hW' := hW
  obtain ⟨p, q, hA0, hV, rfl, hfz, hnd⟩ := hW
  have hA : DataW.TrodAll enc Try.prog W 0 (fun _ => true) true Try.f5.params.toList args.toList ds p := hA0
  rw [Try.params5] at hA hval
  obtain ⟨v0, vs0, d0, ds0, p0, q0, hargs, rfl, rfl, h0, r0⟩ := trodAll_cons hA
  obtain ⟨v1, vs1, d1, ds1, p1, q1, rfl, rfl, rfl, h1, r1⟩ := trodAll_cons r0
  obtain ⟨rfl, rfl, rfl⟩ := trodAll_nil r1
  obtain rfl : args = #[v0, v1] := by cases args; simp_all
  obtain ⟨rfl, rfl⟩ := trodVars_none hV
  obtain ⟨a0, len0, cap0, rfl⟩ := okWide_slice Try.underlying22 (hval 0 22 v0 rfl rfl)
  have k0 := h0
  have lt0 : ∀ x ∈ p0, x.block < W.heap.size := by obtain ⟨m, hm⟩ := k0; exact DataW.trod_lt m _ _ _ hm
  obtain ⟨z0, w0⟩ : ∃ zs, IsRow .i64 W a0 len0 cap0 zs := by
    obtain ⟨fuel, hf⟩ := h0
    rcases open_ints Try.underlying22 Try.underlying3 (by kernel_rfl) hf with ⟨hcs, _⟩ | ⟨x, l, c, zs, hcs, _, hl, hm, hz, _, hcell, hwz⟩
    · simp [Value.cells] at hcs
      obtain ⟨rfl, rfl, rfl⟩ := hcs
      exact ⟨[], .inl ⟨rfl, rfl, rfl, rfl⟩⟩
    · simp [Value.cells] at hcs
      obtain ⟨rfl, rfl, rfl⟩ := hcs
      exact ⟨zs, .inr ⟨_, rfl, hl, hm, by simpa using hz, hcell, hwz⟩⟩
  obtain ⟨a1, rfl, rfl, rfl, w1⟩ := open_int Try.underlying5 (hval 1 5 v1 rfl rfl) h1
  clear hA0 hval0
  refine (walk a0 len0 cap0 z0 a1 W w0 w1).mono fun e W' ⟨he, bel⟩ => ?_
  subst he
  exact ⟨_, rfl, _, _, _, [], _, [], hW', trodAll_mk1 (shut_bool Try.underlying4 _), (trodAll_cons_mk (Below.trod laidOut (by kernel_rfl) (of_decide_eq_true (by kernel_rfl)) k0 bel lt0) (trodAll_cons_mk (shut_int Try.underlying5 w1) trodAll_mk0)), rfl, bel.frame _, fun h => by cases h⟩

theorem over : Rows.warpBandsRow.holds Try.pinned (OpenSpec.ofChange Rows.warpBandsSpec) :=
  OpenClaim.holds_of_wide 5 Try.f5 rfl rfl rfl rfl rfl rfl rfl ⟨rfl, rfl, rfl, rfl, rfl⟩ rfl rfl rfl rfl rfl (by kernel_rfl) Try.func5 (by kernel_rfl)
    (of_decide_eq_true (by kernel_rfl)) (by unfold Func.isWrapper; first | (rw [if_pos (by decide +kernel)]; kernel_rfl) | (rw [if_neg (by decide +kernel)]; exact ⟨rfl, rfl⟩))
    (fun os started H enc _ => lifted os started H enc)

theorem proved : Rows.WarpBandsSaid := over
end Go.Proofs.Ytkjffielnmdpcaa.warpBands
