/- That the law WarpAll returns true for every input that can be read, and leaves its arguments as they were; no further condition. -/
import Derived.Test.YtkjffielnmdpcaaRows
import Derived.WalkKit
import Derived.ProofKit
import Derived.OpenShut
import Derived.Test.YtkjffielnmdpcaaWords
import Derived.Test.YtkjffielnmdpcaaSrcNew0
import Derived.Test.YtkjffielnmdpcaaWarp10
import Derived.Test.YtkjffielnmdpcaaWarpAll
import Derived.ShutString
import Derived.ChangeOld
import Derived.Below
namespace Go.Proofs.Ytkjffielnmdpcaa.warpAll
open Go.ChangeShapes Go.WideShapes Go.ChangeAt Go.RowKit Wo
open Go.ChangeMaps (open_string shut_string)
set_option linter.unusedVariables false

theorem own : ownKnob Try.prog.godebug = none := by kernel_rfl
theorem laidOut : laidOutB Try.prog = true := by kernel_rfl

/-- WHAT THE WALK IS TOLD OF A SLICE OF INTEGERS THAT CAME IN: it is nil; or it leads to a row of 'cap' cells, the numbers 'zs' (the first 'len' are its elements, the rest its spare room), each fitting its kind. -/
def IsRow (k : IntKind) (w : World) (a : Option Addr) (len cap : Nat) (zs : List Int) : Prop :=
  (a = none ∧ len = 0 ∧ cap = 0 ∧ zs = []) ∨
  ∃ x, a = some x ∧ len ≤ cap ∧ cap ≤ maxLen ∧ zs.length = cap ∧ (∀ i, i < zs.length → w.cell? (x.add i) = some (.int k (zs.getD i 0))) ∧ ∀ n ∈ zs, (Lit.int k n).wf = true

open Go.Proofs.Ytkjffielnmdpcaa.Wa Go.Proofs.Ytkjffielnmdpcaa.Ed Go.Proofs.Ytkjffielnmdpcaa.Wi Go.Proofs.Ytkjffielnmdpcaa.Wo Go.Proofs.Ytkjffielnmdpcaa.Sr in
set_option maxHeartbeats 4000000 in
set_option maxRecDepth 100000 in
theorem walk (a0 : Option Addr) (len0 cap0 : Nat) (z0 : List Int) (w : World) (w0 : IsRow .i64 w a0 len0 cap0 z0) :
    Calls Try.prog 4 #[.slice a0 len0 cap0] w fun e w' => e = .returned (.bool true) ∧ Below w.heap.size w w' := by
  have AW : Hid (∀ W, Calls Try.prog 20 #[] W fun e w' => e = .returned (.bool true) ∧ Bel W w') := awake_any
  go_enter Try.func4, Try.ntmps4
  go_wp2_with fail
  go_at_call 14
  refine (new_any a0 len0 cap0 z0 w w0).mono ?_
  rintro e v1 ⟨q, rfl, hq, ho1, hb1⟩
  have HO := Lib.hid ho1
  have HBa : Hid (Bel w v1) := hb1
  clear ho1 hb1
  go_wp2_with fail
  go_at_call 15
  refine (uneven_any q _ HO.out).mono ?_
  rintro e v2 ⟨xa, xb, ya, yb, n, m, L, M, k, rfl, n1, n2, m1, m2, hxy, hcx, hcy, k0, k1, k2, k3, hox, hoy, lL, lM, sL, sM, ho2, hc2⟩
  have HBb : Hid (Bel w v2) := Bel.ch HBa.out hc2 (by have := hq; omega)
  have zx : Zi v2 (some ⟨xa, 0, none⟩) n L := own_zi hox lL
  have zy : Zi v2 (some ⟨ya, 0, none⟩) m M := own_zi hoy lM
  have HOX := Lib.hid hox
  have HOY := Lib.hid hoy
  clear ho2 hc2
  obtain ⟨N, hN⟩ : ∃ N, min n 5 = N := ⟨_, rfl⟩
  obtain ⟨M', hM⟩ : ∃ N, min m 5 = N := ⟨_, rfl⟩
  have hNb : 2 ≤ N ∧ N ≤ 5 ∧ N ≤ n := by omega
  have hMb : 2 ≤ M' ∧ M' ≤ 5 ∧ M' ≤ m := by omega
  have hbd1 : (N : Int) - (M' : Int) ≤ k := by omega
  have hbd2 : (M' : Int) - (N : Int) ≤ k := by omega
  have lT : (L.take N).length = N := by rw [List.length_take, lL]; omega
  have mT : (M.take M').length = M' := by rw [List.length_take, lM]; omega
  have zxt : Zi v2 (some ⟨xa, 0, none⟩) N (L.take N) := own_zi (own_take hox lL hNb.2.2) lT
  have zyt : Zi v2 (some ⟨ya, 0, none⟩) M' (M.take M') := own_zi (own_take hoy lM hMb.2.2) mT
  have D1 : Hid (∀ W, Bel v2 W → _) := fun W hW => distance_ok (some ⟨xa, 0, none⟩) (some ⟨ya, 0, none⟩) xb yb N M' (L.take N) (M.take M') k hNb.1 (by omega) hMb.1 (by omega) k0 k1 hbd1 hbd2 (sL.take N) (sM.take M') W (zxt.bel hW) (zyt.bel hW)
  have A1 : Hid (∀ W, Bel v2 W → _) := fun W hW => all_ok (some ⟨xa, 0, none⟩) (some ⟨ya, 0, none⟩) xb yb N M' (L.take N) (M.take M') k k0 k1 hNb.2.1 hMb.2.1 (sL.take N) (sM.take M') _ 0 0 (by omega) (by omega) rfl W (zxt.bel hW) (zyt.bel hW)
  rw [wa_all (sL.take N) (sM.take M') k0 (by omega) (by omega) (by omega) (by omega) ⟨by omega, by omega⟩] at A1
  obtain ⟨a, ha⟩ : ∃ a, wt (L.take N) (M.take M') k N M' = a := ⟨_, rfl⟩
  rw [ha] at D1 A1
  have HLET := Lib.hid (And.intro hN (And.intro hM ha))
  have kaa : (a == a) = true := by simp
  have nx : N ≤ xb := by omega
  have ny : M' ≤ yb := by omega
  clear ha lT mT zxt zyt hox hoy zx zy sL sM lL lM w0 hN hM hbd1 hbd2
  have HNB := Lib.hid (And.intro hNb hMb)
  have i1 : (N : Int) ≤ (xb : Int) := by omega
  have i2 : (M' : Int) ≤ (yb : Int) := by omega
  rcases Nat.lt_or_ge 5 n with hn5 | hn5
  · obtain rfl : N = 5 := by have := HLET.out; omega
    have q1 : (5 : Int) < (n : Int) := by omega
    rcases Nat.lt_or_ge 5 m with hm5 | hm5
    · obtain rfl : M' = 5 := by have := HLET.out; omega
      have q2 : (5 : Int) < (m : Int) := by omega
      go_wp2_with fail
      go_region
      all_goals
        go_wp2_with fail
        go_at_call 16
        refine (D1.out _ (by first | exact Bel.rf | exact Bel.rf.drw | exact Bel.rf.drwN _)).mono ?_
        rintro e p1 ⟨rfl, hb⟩
        have HD1 : Hid (Bel v2 p1) := (by first | exact hb | exact Bel.tr Bel.rf.drw hb | exact Bel.tr (Bel.rf.drwN _) hb)
        clear hb
        go_wp2_with (first
          | (go_at_call 21; refine (A1.out _ HD1.out).mono ?_; rintro e p2 ⟨rfl, hb2⟩)
          | (go_at_call 20; refine (AW.out _).mono ?_; rintro e w9 ⟨rfl, hb9⟩))
        go_ret
        exact ⟨rfl, (((HBb.out.tr HD1.out).tr hb2).tr hb9).bl⟩
    · obtain rfl : M' = m := by have := HLET.out; omega
      have q2 : (M' : Int) ≤ 5 := by omega
      go_wp2_with fail
      go_region
      all_goals
        go_wp2_with fail
        go_at_call 16
        refine (D1.out _ (by first | exact Bel.rf | exact Bel.rf.drw | exact Bel.rf.drwN _)).mono ?_
        rintro e p1 ⟨rfl, hb⟩
        have HD1 : Hid (Bel v2 p1) := (by first | exact hb | exact Bel.tr Bel.rf.drw hb | exact Bel.tr (Bel.rf.drwN _) hb)
        clear hb
        go_wp2_with (first
          | (go_at_call 21; refine (A1.out _ HD1.out).mono ?_; rintro e p2 ⟨rfl, hb2⟩)
          | (go_at_call 20; refine (AW.out _).mono ?_; rintro e w9 ⟨rfl, hb9⟩))
        go_ret
        exact ⟨rfl, (((HBb.out.tr HD1.out).tr hb2).tr hb9).bl⟩
  · obtain rfl : N = n := by have := HLET.out; omega
    have q1 : (N : Int) ≤ 5 := by omega
    rcases Nat.lt_or_ge 5 m with hm5 | hm5
    · obtain rfl : M' = 5 := by have := HLET.out; omega
      have q2 : (5 : Int) < (m : Int) := by omega
      go_wp2_with fail
      go_region
      all_goals
        go_wp2_with fail
        go_at_call 16
        refine (D1.out _ (by first | exact Bel.rf | exact Bel.rf.drw | exact Bel.rf.drwN _)).mono ?_
        rintro e p1 ⟨rfl, hb⟩
        have HD1 : Hid (Bel v2 p1) := (by first | exact hb | exact Bel.tr Bel.rf.drw hb | exact Bel.tr (Bel.rf.drwN _) hb)
        clear hb
        go_wp2_with (first
          | (go_at_call 21; refine (A1.out _ HD1.out).mono ?_; rintro e p2 ⟨rfl, hb2⟩)
          | (go_at_call 20; refine (AW.out _).mono ?_; rintro e w9 ⟨rfl, hb9⟩))
        go_ret
        exact ⟨rfl, (((HBb.out.tr HD1.out).tr hb2).tr hb9).bl⟩
    · obtain rfl : M' = m := by have := HLET.out; omega
      have q2 : (M' : Int) ≤ 5 := by omega
      go_wp2_with fail
      go_region
      all_goals
        go_wp2_with fail
        go_at_call 16
        refine (D1.out _ (by first | exact Bel.rf | exact Bel.rf.drw | exact Bel.rf.drwN _)).mono ?_
        rintro e p1 ⟨rfl, hb⟩
        have HD1 : Hid (Bel v2 p1) := (by first | exact hb | exact Bel.tr Bel.rf.drw hb | exact Bel.tr (Bel.rf.drwN _) hb)
        clear hb
        go_wp2_with (first
          | (go_at_call 21; refine (A1.out _ HD1.out).mono ?_; rintro e p2 ⟨rfl, hb2⟩)
          | (go_at_call 20; refine (AW.out _).mono ?_; rintro e w9 ⟨rfl, hb9⟩))
        go_ret
        exact ⟨rfl, (((HBb.out.tr HD1.out).tr hb2).tr hb9).bl⟩

set_option maxRecDepth 100000 in
theorem lifted (os : Os) (started : os.Started) (H : Type) (enc : TypeId × Value → H) :
    ReturnsInHanded {} Try.checked os 4 .any (Rows.warpAllSpec.pre6 enc Try.prog Try.f4 Rows.warpAllRow.domain false) (Rows.warpAllSpec.post enc Try.prog Try.f4 false true false false) := by
  refine returnsInHanded_of_change (C := Try.checked) own started (by kernel_rfl) Try.func4
    (ChangeSpec.witness6 (enc := enc) (C := Try.checked) false ⟨#[], #[.slice none 0 0], []⟩ 8 (by kernel_rfl) (by kernel_rfl) (by kernel_rfl) (by kernel_rfl)) ?_
  intro W base args ds gs before hval0 hW hcnd _
  have hval : ∀ (j : Nat) t v, Try.f4.params[j]? = some t → args[j]? = some v → Value.okWide Try.prog W .any base t v := hval0
  have hW' := hW
  obtain ⟨p, q, hA0, hV, rfl, hfz, hnd⟩ := hW
  have hA : DataW.TrodAll enc Try.prog W 0 (fun _ => true) true Try.f4.params.toList args.toList ds p := hA0
  rw [Try.params4] at hA hval
  obtain ⟨v0, vs0, d0, ds0, p0, q0, hargs, rfl, rfl, h0, r0⟩ := trodAll_cons hA
  obtain ⟨rfl, rfl, rfl⟩ := trodAll_nil r0
  obtain rfl : args = #[v0] := by cases args; simp_all
  obtain ⟨rfl, rfl⟩ := trodVars_none hV
  obtain ⟨a0, len0, cap0, rfl⟩ := okWide_slice Try.underlying22 (hval 0 22 v0 rfl rfl)
  have k0 := h0
  have lt0 : ∀ x ∈ p0, x.block < W.heap.size := by obtain ⟨m, hm⟩ := k0; exact DataW.trod_lt m _ _ _ hm
  obtain ⟨z0, w0⟩ : ∃ zs, IsRow .i64 W a0 len0 cap0 zs := by
    obtain ⟨fuel, hf⟩ := h0
    rcases open_ints Try.underlying22 Try.underlying3 (by kernel_rfl) hf with ⟨hcs, _⟩ | ⟨x, l, c, zs, hcs, _, hl, hm, hz, _, hcell, hwz⟩
    · simp [Value.cells] at hcs
      obtain ⟨rfl, rfl, rfl⟩ := hcs
      exact ⟨[], .inl ⟨rfl, rfl, rfl, rfl⟩⟩
    · simp [Value.cells] at hcs
      obtain ⟨rfl, rfl, rfl⟩ := hcs
      exact ⟨zs, .inr ⟨_, rfl, hl, hm, by simpa using hz, hcell, hwz⟩⟩
  clear hA0 hval0
  refine (walk a0 len0 cap0 z0 W w0).mono fun e W' ⟨he, bel⟩ => ?_
  subst he
  exact ⟨_, rfl, _, _, _, [], _, [], hW', trodAll_mk1 (shut_bool Try.underlying4 _), (trodAll_cons_mk (Below.trod laidOut (by kernel_rfl) (of_decide_eq_true (by kernel_rfl)) k0 bel lt0) trodAll_mk0), rfl, bel.frame _, fun h => by cases h⟩

theorem over : Rows.warpAllRow.holds Try.pinned (OpenSpec.ofChange Rows.warpAllSpec) :=
  OpenClaim.holds_of_wide 4 Try.f4 rfl rfl rfl rfl rfl rfl rfl ⟨rfl, rfl, rfl, rfl, rfl⟩ rfl rfl rfl rfl rfl (by kernel_rfl) Try.func4 (by kernel_rfl)
    (of_decide_eq_true (by kernel_rfl)) (by unfold Func.isWrapper; first | (rw [if_pos (by decide +kernel)]; kernel_rfl) | (rw [if_neg (by decide +kernel)]; exact ⟨rfl, rfl⟩))
    (fun os started H enc _ => lifted os started H enc)

theorem proved : Rows.WarpAllSaid := over
end Go.Proofs.Ytkjffielnmdpcaa.warpAll
