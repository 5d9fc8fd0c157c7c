/- That the law RootScales returns true for every input that can be read, and leaves its arguments as they were; no further condition. -/
import Derived.Test.YtmpkjlifcdobiaaRows
import Derived.WalkKit
import Derived.ProofKit
import Derived.OpenShut
import Derived.Test.YtmpkjlifcdobiaaRootWalks
namespace Go.Proofs.Ytmpkjlifcdobiaa.rootScales
open Go.ChangeShapes Go.WideShapes Go.ChangeAt Go.RowKit
set_option linter.unusedVariables false      -- a walk need not use every 'w<i>' (that an integer argument fits its kind)

theorem own : ownKnob Try.prog.godebug = none := by kernel_rfl

open Go.Proofs.Ytmpkjlifcdobiaa.Rt in
theorem walk (a0 : Int) (a1 : Int) (a2 : Int) (w0 : (Lit.int .i16 a0).wf = true) (w1 : (Lit.int .u16 a1).wf = true) (w2 : (Lit.int .u8 a2).wf = true) (w : World) :
    Calls Try.prog 8 #[.int .i16 a0, .int .u16 a1, .int .u8 a2] w fun e w' => e = .returned (.bool true) ∧ Grown w w' := by
  have hb0 := bounds_i16 w0
  have hb1 := bounds_u16 w1
  have hb2 := bounds_u8 w2
  have hc0 := hb0.1
  have hc1 := hb0.2
  have hc2 := hb1.1
  have hc3 := hb1.2
  have hc4 := hb2.1
  have hc5 := hb2.2
  clear hb0 hb1 hb2
  have hp := mul_mono (a := 1 + a1) (b := 65536) (c := 1 + a2) (d := 256) (by omega) (by omega) (by omega) (by omega)
  have hp1 := Int.mul_nonneg (a := 1 + a1) (b := 1 + a2) (by omega) (by omega)
  have hq := mul_mono (a := (1 + a1) * (1 + a2)) (b := 65536 * 256) (c := 1 + a2) (d := 256) hp (by omega) (by omega) (by omega)
  have hq1 : 1 * 1 ≤ (1 + a1) * (1 + a2) := mul_mono (by omega) (by omega) (by omega) (by omega)
  have hq2 : 1 * 1 * 1 ≤ (1 + a1) * (1 + a2) * (1 + a2) := mul_mono hq1 (by omega) (by omega) (by omega)
  have hr1 : a0 * (1 + a2) ≤ 32767 * 256 := by
    have := Int.mul_le_mul_of_nonneg_right hc1 (show (0:Int) ≤ 1 + a2 by omega); omega
  have hr2 : -32768 * 256 ≤ a0 * (1 + a2) := by
    have := Int.mul_le_mul_of_nonneg_right hc0 (show (0:Int) ≤ 1 + a2 by omega); omega
  have HQ1 : Hid (QIn a0 (1 + a1)) := ⟨by omega, by omega, by omega, by omega⟩
  have HQ2 : Hid (QIn (a0 * (1 + a2)) ((1 + a1) * (1 + a2) * (1 + a2))) := ⟨by omega, by omega, by omega, by omega⟩
  have HQ3 := HQ2
  have he : quo (a0 * (1 + a2)) ((1 + a1) * (1 + a2) * (1 + a2)) = quo a0 (1 + a1) := quo_scale (by omega)
  go_enter Try.func8, Try.ntmps8
  go_wp2_with (first | (go_at_call 13; (first | (with_reducible refine (quo_in _ _ _ HQ1.out).mono ?_) | (with_reducible refine (quo_in _ _ _ HQ2.out).mono ?_) | (with_reducible refine (quo_in _ _ _ HQ3.out).mono ?_)); rintro e w' ⟨rfl, rfl⟩) | (go_at_call 9; refine (floor_any _ _).mono ?_; rintro e w' ⟨rfl, rfl⟩) | (go_at_call 11; refine (ceil_any _ _).mono ?_; rintro e w' ⟨rfl, rfl⟩) | (go_at_call 15; refine (awake_any _).mono ?_; rintro e w' ⟨rfl, rfl⟩))
  go_ret
  exact ⟨rfl, Grown.refl _⟩

set_option maxRecDepth 100000 in
theorem lifted (os : Os) (started : os.Started) (H : Type) (enc : TypeId × Value → H) :
    ReturnsInHanded {} Try.checked os 8 .any (Rows.rootScalesSpec.pre6 enc Try.prog Try.f8 Rows.rootScalesRow.domain false) (Rows.rootScalesSpec.post enc Try.prog Try.f8 false true false false) := by
  refine returnsInHanded_of_change (C := Try.checked) own started (by kernel_rfl) Try.func8
    (ChangeSpec.witness6 (enc := enc) (C := Try.checked) false ⟨#[], #[.int .i16 0, .int .u16 0, .int .u8 0], []⟩ 8 (by kernel_rfl) (by kernel_rfl) (by kernel_rfl) (by kernel_rfl)) ?_
  intro W base args ds gs before hval0 hW hcnd _
  have hval : ∀ (j : Nat) t v, Try.f8.params[j]? = some t → args[j]? = some v → Value.okWide Try.prog W .any base t v := hval0
  have hW' := hW
  obtain ⟨p, q, hA0, hV, rfl, hfz, hnd⟩ := hW
  have hA : DataW.TrodAll enc Try.prog W 0 (fun _ => true) true Try.f8.params.toList args.toList ds p := hA0
  rw [Try.params8] at hA hval
  obtain ⟨v0, vs0, d0, ds0, p0, q0, hargs, rfl, rfl, h0, r0⟩ := trodAll_cons hA
  obtain ⟨v1, vs1, d1, ds1, p1, q1, rfl, rfl, rfl, h1, r1⟩ := trodAll_cons r0
  obtain ⟨v2, vs2, d2, ds2, p2, q2, rfl, rfl, rfl, h2, r2⟩ := trodAll_cons r1
  obtain ⟨rfl, rfl, rfl⟩ := trodAll_nil r2
  obtain rfl : args = #[v0, v1, v2] := by cases args; simp_all
  obtain ⟨rfl, rfl⟩ := trodVars_none hV
  obtain ⟨a0, rfl, rfl, rfl, w0⟩ := open_int Try.underlying36 (hval 0 36 v0 rfl rfl) h0
  obtain ⟨a1, rfl, rfl, rfl, w1⟩ := open_int Try.underlying33 (hval 1 33 v1 rfl rfl) h1
  obtain ⟨a2, rfl, rfl, rfl, w2⟩ := open_int Try.underlying5 (hval 2 5 v2 rfl rfl) h2
  clear hA0 hval0
  simp only [List.append_nil] at hW'
  refine (walk a0 a1 a2 w0 w1 w2 W).mono fun e W' ⟨he, hg⟩ => ?_
  subst he
  exact ⟨_, rfl, post_of_same (pa := []) (pv := []) hW' (fun _ _ _ => (trodAll_cons_mk (shut_bool Try.underlying4 _) trodAll_mk0)) (fun sp _ => (trodAll_cons_mk (shut_int Try.underlying36 w0) (trodAll_cons_mk (shut_int Try.underlying33 w1) (trodAll_cons_mk (shut_int Try.underlying5 w2) trodAll_mk0)))) (fun _ _ => rfl) rfl
    (hg.frame _) hg.2.1 (ok_one (by kernel_rfl) rfl (okWide_bool_mk Try.underlying4 _))⟩

theorem over : Rows.rootScalesRow.holds Try.pinned (OpenSpec.ofChange Rows.rootScalesSpec) :=
  OpenClaim.holds_of_wide 8 Try.f8 rfl rfl rfl rfl rfl rfl rfl ⟨rfl, rfl, rfl, rfl, rfl⟩ rfl rfl rfl rfl rfl (by kernel_rfl) Try.func8 (by kernel_rfl)
    (of_decide_eq_true (by kernel_rfl)) (by unfold Func.isWrapper; first | (rw [if_pos (by decide +kernel)]; kernel_rfl) | (rw [if_neg (by decide +kernel)]; exact ⟨rfl, rfl⟩))
    (fun os started H enc _ => lifted os started H enc)

theorem proved : Rows.RootScalesSaid :=
  over
end Go.Proofs.Ytmpkjlifcdobiaa.rootScales
