/- That the law RootQuotients returns true for every input that can be read, and leaves its arguments as they were; no further condition. -/
import Derived.Test.YtmpkjlifcdobiaaRows
import Derived.WalkKit
import Derived.ProofKit
import Derived.OpenShut
import Derived.Test.YtmpkjlifcdobiaaRootWalks
namespace Go.Proofs.Ytmpkjlifcdobiaa.rootQuotients
open Go.ChangeShapes Go.WideShapes Go.ChangeAt Go.RowKit
set_option linter.unusedVariables false      -- a walk need not use every 'w<i>' (that an integer argument fits its kind)

theorem own : ownKnob Try.prog.godebug = none := by kernel_rfl

open Go.Proofs.Ytmpkjlifcdobiaa.Rt in
theorem facts (t e : Int) (h0 : 0 ≤ t) (h1 : t ≤ 65535) (h2 : 0 ≤ e) (h3 : e ≤ 4294967295) :
    0 ≤ quo t (1 + e) ∧ quo t (1 + e) ≤ t ∧ 0 ≤ quo t (1 + e) * quo t (1 + e) ∧ quo t (1 + e) * quo t (1 + e) * (1 + e) ≤ t * t ∧ 0 ≤ t * t ∧ t * t ≤ 4294836225 ∧ 0 ≤ quo t (1 + e) * quo t (1 + e) * (1 + e) ∧ quo t (1 + e) * quo t (1 + e) ≤ 4294836225 ∧
    0 ≤ (quo t (1 + e) + 1) * (quo t (1 + e) + 1) ∧ (quo t (1 + e) + 1) * (quo t (1 + e) + 1) ≤ 4294967296 ∧ 0 ≤ (quo t (1 + e) + 1) * (quo t (1 + e) + 1) * (1 + e) ∧
    ((quo t (1 + e) + 1) * (quo t (1 + e) + 1) ≤ t * t → t * t < (quo t (1 + e) + 1) * (quo t (1 + e) + 1) * (1 + e) ∧ (quo t (1 + e) + 1) * (quo t (1 + e) + 1) * (1 + e) ≤ 9223372036854775807) := by
  have hq : QIn t (1 + e) := ⟨by omega, by omega, by omega, by omega⟩
  have q := qq_le hq
  have tt0 : 0 ≤ t * t := Int.mul_nonneg h0 h0
  have tt1 : t * t ≤ 65535 * 65535 := sq_mono h1 h0
  have d := div_bd (e := 1 + e) tt0 (by omega) (by omega)
  have m := div_mul (a := t * t) (e := 1 + e) (by omega)
  have i0 := isq_nonneg (t * t / (1 + e))
  have i1 := isq_le d.1
  have i2 := isq_lt d.1
  rw [← quo_pos (e := 1 + e) h0] at q i0 i1 i2
  generalize quo t (1 + e) = x at *
  have x2 : 0 ≤ x * x := Int.mul_nonneg i0 i0
  have hd : t * t / (1 + e) ≤ t * t := Int.ediv_le_self _ tt0
  have xt : x ≤ t := of_sq_le (by omega) h0
  have y2 : (x + 1) * (x + 1) ≤ 65536 * 65536 := sq_mono (by omega) (by omega)
  have y0 : 0 ≤ (x + 1) * (x + 1) := Int.mul_nonneg (by omega) (by omega)
  have l := mul_le (a := t * t / (1 + e) + 1) (b := (x + 1) * (x + 1)) (e := 1 + e) (by omega) (by omega)
  have l2 : (t * t / (1 + e) + 1) * (1 + e) = t * t / (1 + e) * (1 + e) + (1 + e) := by grind
  refine ⟨i0, xt, x2, q.2, tt0, by omega, q.1, by omega, y0, by omega, Int.mul_nonneg y0 (by omega), fun hh => ⟨by omega, ?_⟩⟩
  rcases Classical.em (x = 0) with hx | hx
  · subst hx
    have : (0 + 1 : Int) * (0 + 1) * (1 + e) = 1 + e := by grind
    omega
  · have s : (x + 1) * (x + 1) ≤ 4 * (x * x) := by
      have := sq_mono (a := x + 1) (b := 2 * x) (by omega) (by omega)
      have e2 : 2 * x * (2 * x) = 4 * (x * x) := by grind
      omega
    have l3 := mul_le (e := 1 + e) s (by omega)
    have l4 : 4 * (x * x) * (1 + e) = 4 * (x * x * (1 + e)) := by grind
    omega
open Go.Proofs.Ytmpkjlifcdobiaa.Rt in
theorem walk (a0 : Int) (a1 : Int) (w0 : (Lit.int .u16 a0).wf = true) (w1 : (Lit.int .u32 a1).wf = true) (w : World) :
    Calls Try.prog 5 #[.int .u16 a0, .int .u32 a1] w fun e w' => e = .returned (.bool true) ∧ Grown w w' := by
  have hb0 := bounds_u16 w0
  have hb1 := bounds_u32 w1
  have hc0 := hb0.1
  have hc1 := hb0.2
  have hc2 := hb1.1
  have hc3 := hb1.2
  clear hb0 hb1
  have HQ : Hid (QIn a0 (1 + a1)) := ⟨by omega, by omega, by omega, by omega⟩
  obtain ⟨g1, g2, g3, g4, g5, g6, g7, g7', g8, g9, g10, g11⟩ := facts a0 a1 hc0 hc1 hc2 hc3
  rcases Classical.em ((quo a0 (1 + a1) + 1) * (quo a0 (1 + a1) + 1) ≤ a0 * a0) with hm | hm
  · have g12 := g11 hm
    have g13 := g12.1
    have g14 := g12.2
    clear g11 g12
    go_enter Try.func5, Try.ntmps5
    go_wp2_with (first | (go_at_call 13; refine (quo_in _ _ _ HQ.out).mono ?_; rintro e w' ⟨rfl, rfl⟩) | (go_at_call 15; refine (awake_any _).mono ?_; rintro e w' ⟨rfl, rfl⟩))
    go_ret
    exact ⟨rfl, Grown.refl _⟩
  · clear g11
    go_enter Try.func5, Try.ntmps5
    go_wp2_with (first | (go_at_call 13; refine (quo_in _ _ _ HQ.out).mono ?_; rintro e w' ⟨rfl, rfl⟩) | (go_at_call 15; refine (awake_any _).mono ?_; rintro e w' ⟨rfl, rfl⟩))
    go_ret
    exact ⟨rfl, Grown.refl _⟩

set_option maxRecDepth 100000 in
theorem lifted (os : Os) (started : os.Started) (H : Type) (enc : TypeId × Value → H) :
    ReturnsInHanded {} Try.checked os 5 .any (Rows.rootQuotientsSpec.pre6 enc Try.prog Try.f5 Rows.rootQuotientsRow.domain false) (Rows.rootQuotientsSpec.post enc Try.prog Try.f5 false true false false) := by
  refine returnsInHanded_of_change (C := Try.checked) own started (by kernel_rfl) Try.func5
    (ChangeSpec.witness6 (enc := enc) (C := Try.checked) false ⟨#[], #[.int .u16 0, .int .u32 0], []⟩ 8 (by kernel_rfl) (by kernel_rfl) (by kernel_rfl) (by kernel_rfl)) ?_
  intro W base args ds gs before hval0 hW hcnd _
  have hval : ∀ (j : Nat) t v, Try.f5.params[j]? = some t → args[j]? = some v → Value.okWide Try.prog W .any base t v := hval0
  have hW' := hW
  obtain ⟨p, q, hA0, hV, rfl, hfz, hnd⟩ := hW
  have hA : DataW.TrodAll enc Try.prog W 0 (fun _ => true) true Try.f5.params.toList args.toList ds p := hA0
  rw [Try.params5] at hA hval
  obtain ⟨v0, vs0, d0, ds0, p0, q0, hargs, rfl, rfl, h0, r0⟩ := trodAll_cons hA
  obtain ⟨v1, vs1, d1, ds1, p1, q1, rfl, rfl, rfl, h1, r1⟩ := trodAll_cons r0
  obtain ⟨rfl, rfl, rfl⟩ := trodAll_nil r1
  obtain rfl : args = #[v0, v1] := by cases args; simp_all
  obtain ⟨rfl, rfl⟩ := trodVars_none hV
  obtain ⟨a0, rfl, rfl, rfl, w0⟩ := open_int Try.underlying33 (hval 0 33 v0 rfl rfl) h0
  obtain ⟨a1, rfl, rfl, rfl, w1⟩ := open_int Try.underlying34 (hval 1 34 v1 rfl rfl) h1
  clear hA0 hval0
  simp only [List.append_nil] at hW'
  refine (walk a0 a1 w0 w1 W).mono fun e W' ⟨he, hg⟩ => ?_
  subst he
  exact ⟨_, rfl, post_of_same (pa := []) (pv := []) hW' (fun _ _ _ => (trodAll_cons_mk (shut_bool Try.underlying4 _) trodAll_mk0)) (fun sp _ => (trodAll_cons_mk (shut_int Try.underlying33 w0) (trodAll_cons_mk (shut_int Try.underlying34 w1) trodAll_mk0))) (fun _ _ => rfl) rfl
    (hg.frame _) hg.2.1 (ok_one (by kernel_rfl) rfl (okWide_bool_mk Try.underlying4 _))⟩

theorem over : Rows.rootQuotientsRow.holds Try.pinned (OpenSpec.ofChange Rows.rootQuotientsSpec) :=
  OpenClaim.holds_of_wide 5 Try.f5 rfl rfl rfl rfl rfl rfl rfl ⟨rfl, rfl, rfl, rfl, rfl⟩ rfl rfl rfl rfl rfl (by kernel_rfl) Try.func5 (by kernel_rfl)
    (of_decide_eq_true (by kernel_rfl)) (by unfold Func.isWrapper; first | (rw [if_pos (by decide +kernel)]; kernel_rfl) | (rw [if_neg (by decide +kernel)]; exact ⟨rfl, rfl⟩))
    (fun os started H enc _ => lifted os started H enc)

theorem proved : Rows.RootQuotientsSaid :=
  over
end Go.Proofs.Ytmpkjlifcdobiaa.rootQuotients
