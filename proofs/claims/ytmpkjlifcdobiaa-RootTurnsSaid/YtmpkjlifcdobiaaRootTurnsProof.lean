/- That the law RootTurns returns true for every input that can be read, and leaves its arguments as they were; no further condition. -/
import Derived.Test.YtmpkjlifcdobiaaRows
import Derived.WalkKit
import Derived.ProofKit
import Derived.OpenShut
import Derived.Test.YtmpkjlifcdobiaaRootWalks
namespace Go.Proofs.Ytmpkjlifcdobiaa.rootTurns
open Go.ChangeShapes Go.WideShapes Go.ChangeAt Go.RowKit
set_option linter.unusedVariables false      -- a walk need not use every 'w<i>' (that an integer argument fits its kind)

theorem own : ownKnob Try.prog.godebug = none := by kernel_rfl

open Go.Proofs.Ytmpkjlifcdobiaa.Rt in
theorem facts (t e : Int) (h0 : 0 ≤ t) (h1 : t ≤ 65535) (h2 : 0 ≤ e) (h3 : e ≤ 4294967295) :
    0 ≤ quo t (1 + e) ∧ quo t (1 + e) ≤ t ∧ 0 ≤ quo t (1 + e) * quo t (1 + e) ∧ quo t (1 + e) * quo t (1 + e) * (1 + e) ≤ t * t ∧ 0 ≤ t * t ∧ t * t ≤ 4294836225 ∧ 0 ≤ quo t (1 + e) * quo t (1 + e) * (1 + e) ∧
    quo t (1 + e) * quo t (1 + e) ≤ 4294836225 ∧
    (quo t (1 + e) * quo t (1 + e) * (1 + e) = t * t ∧ quo (-t) (1 + e) = -quo t (1 + e) ∨ quo t (1 + e) * quo t (1 + e) * (1 + e) < t * t ∧ quo (-t) (1 + e) = -quo t (1 + e) - 1) := by
  have hq : QIn t (1 + e) := ⟨by omega, by omega, by omega, by omega⟩
  have q := qq_le hq
  have tt0 : 0 ≤ t * t := Int.mul_nonneg h0 h0
  have tt1 : t * t ≤ 65535 * 65535 := sq_mono h1 h0
  have d := div_bd (e := 1 + e) tt0 (by omega) (by omega)
  have i0 := isq_nonneg (t * t / (1 + e))
  have i1 := isq_le d.1
  have en : -t * -t = t * t := by grind
  have hn : isq (t * t / (1 + e)) * isq (t * t / (1 + e)) * (1 + e) = t * t ∧ quo (-t) (1 + e) = -isq (t * t / (1 + e)) ∨ isq (t * t / (1 + e)) * isq (t * t / (1 + e)) * (1 + e) < t * t ∧ quo (-t) (1 + e) = -isq (t * t / (1 + e)) - 1 := by
    rcases Classical.em (t = 0) with h | h
    · subst h
      have z : isq (0 * 0 / (1 + e)) = 0 := by simp [isq_zero]
      exact .inl ⟨by rw [z]; simp, by rw [quo_pos (by decide)]; simp [isq_zero]⟩
    · rcases Classical.em (isq (t * t / (1 + e)) * isq (t * t / (1 + e)) * (1 + e) < t * t) with g | g
      · exact .inr ⟨g, by rw [quo_up (by omega) (by rw [en]; exact g), en]; omega⟩
      · exact .inl ⟨by omega, by rw [quo_eq (by omega) (by rw [en]; exact g), en]⟩
  rw [← quo_pos (e := 1 + e) h0] at q i0 i1 hn
  generalize quo t (1 + e) = x at *
  have x2 : 0 ≤ x * x := Int.mul_nonneg i0 i0
  have hd : t * t / (1 + e) ≤ t * t := Int.ediv_le_self _ tt0
  have xt : x ≤ t := of_sq_le (by omega) h0
  exact ⟨i0, xt, x2, q.2, tt0, by omega, q.1, by omega, hn⟩
open Go.Proofs.Ytmpkjlifcdobiaa.Rt in
theorem walk (a0 : Int) (a1 : Int) (w0 : (Lit.int .u16 a0).wf = true) (w1 : (Lit.int .u32 a1).wf = true) (w : World) :
    Calls Try.prog 6 #[.int .u16 a0, .int .u32 a1] w fun e w' => e = .returned (.bool true) ∧ Grown w w' := by
  have hb0 := bounds_u16 w0
  have hb1 := bounds_u32 w1
  have hc0 := hb0.1
  have hc1 := hb0.2
  have hc2 := hb1.1
  have hc3 := hb1.2
  clear hb0 hb1
  have HQ : Hid (QIn a0 (1 + a1)) := ⟨by omega, by omega, by omega, by omega⟩
  have HR : Hid (QIn (-a0) (1 + a1)) := ⟨by omega, by omega, by omega, by omega⟩
  obtain ⟨g1, g2, g3, g4, g5, g6, g7, g8, g9⟩ := facts a0 a1 hc0 hc1 hc2 hc3
  rcases g9 with ⟨k1, k2⟩ | ⟨k1, k2⟩
  · have t1 : (quo a0 (1 + a1) * quo a0 (1 + a1) * (1 + a1) == a0 * a0) = true := by simpa using k1
    clear k1
    go_enter Try.func6, Try.ntmps6
    go_wp2_with (first | (go_at_call 13; (first | (with_reducible refine (quo_in a0 _ _ HQ.out).mono ?_) | (with_reducible refine (quo_in (-a0) _ _ HR.out).mono ?_)); rintro e w' ⟨rfl, rfl⟩) | (go_at_call 15; refine (awake_any _).mono ?_; rintro e w' ⟨rfl, rfl⟩))
    go_ret
    exact ⟨rfl, Grown.refl _⟩
  · have t1 : (quo a0 (1 + a1) * quo a0 (1 + a1) * (1 + a1) == a0 * a0) = false := by simp; omega
    go_enter Try.func6, Try.ntmps6
    go_wp2_with (first | (go_at_call 13; (first | (with_reducible refine (quo_in a0 _ _ HQ.out).mono ?_) | (with_reducible refine (quo_in (-a0) _ _ HR.out).mono ?_)); rintro e w' ⟨rfl, rfl⟩) | (go_at_call 15; refine (awake_any _).mono ?_; rintro e w' ⟨rfl, rfl⟩))
    go_ret
    exact ⟨rfl, Grown.refl _⟩

set_option maxRecDepth 100000 in
theorem lifted (os : Os) (started : os.Started) (H : Type) (enc : TypeId × Value → H) :
    ReturnsInHanded {} Try.checked os 6 .any (Rows.rootTurnsSpec.pre6 enc Try.prog Try.f6 Rows.rootTurnsRow.domain false) (Rows.rootTurnsSpec.post enc Try.prog Try.f6 false true false false) := by
  refine returnsInHanded_of_change (C := Try.checked) own started (by kernel_rfl) Try.func6
    (ChangeSpec.witness6 (enc := enc) (C := Try.checked) false ⟨#[], #[.int .u16 0, .int .u32 0], []⟩ 8 (by kernel_rfl) (by kernel_rfl) (by kernel_rfl) (by kernel_rfl)) ?_
  intro W base args ds gs before hval0 hW hcnd _
  have hval : ∀ (j : Nat) t v, Try.f6.params[j]? = some t → args[j]? = some v → Value.okWide Try.prog W .any base t v := hval0
  have hW' := hW
  obtain ⟨p, q, hA0, hV, rfl, hfz, hnd⟩ := hW
  have hA : DataW.TrodAll enc Try.prog W 0 (fun _ => true) true Try.f6.params.toList args.toList ds p := hA0
  rw [Try.params6] at hA hval
  obtain ⟨v0, vs0, d0, ds0, p0, q0, hargs, rfl, rfl, h0, r0⟩ := trodAll_cons hA
  obtain ⟨v1, vs1, d1, ds1, p1, q1, rfl, rfl, rfl, h1, r1⟩ := trodAll_cons r0
  obtain ⟨rfl, rfl, rfl⟩ := trodAll_nil r1
  obtain rfl : args = #[v0, v1] := by cases args; simp_all
  obtain ⟨rfl, rfl⟩ := trodVars_none hV
  obtain ⟨a0, rfl, rfl, rfl, w0⟩ := open_int Try.underlying33 (hval 0 33 v0 rfl rfl) h0
  obtain ⟨a1, rfl, rfl, rfl, w1⟩ := open_int Try.underlying34 (hval 1 34 v1 rfl rfl) h1
  clear hA0 hval0
  simp only [List.append_nil] at hW'
  refine (walk a0 a1 w0 w1 W).mono fun e W' ⟨he, hg⟩ => ?_
  subst he
  exact ⟨_, rfl, post_of_same (pa := []) (pv := []) hW' (fun _ _ _ => (trodAll_cons_mk (shut_bool Try.underlying4 _) trodAll_mk0)) (fun sp _ => (trodAll_cons_mk (shut_int Try.underlying33 w0) (trodAll_cons_mk (shut_int Try.underlying34 w1) trodAll_mk0))) (fun _ _ => rfl) rfl
    (hg.frame _) hg.2.1 (ok_one (by kernel_rfl) rfl (okWide_bool_mk Try.underlying4 _))⟩

theorem over : Rows.rootTurnsRow.holds Try.pinned (OpenSpec.ofChange Rows.rootTurnsSpec) :=
  OpenClaim.holds_of_wide 6 Try.f6 rfl rfl rfl rfl rfl rfl rfl ⟨rfl, rfl, rfl, rfl, rfl⟩ rfl rfl rfl rfl rfl (by kernel_rfl) Try.func6 (by kernel_rfl)
    (of_decide_eq_true (by kernel_rfl)) (by unfold Func.isWrapper; first | (rw [if_pos (by decide +kernel)]; kernel_rfl) | (rw [if_neg (by decide +kernel)]; exact ⟨rfl, rfl⟩))
    (fun os started H enc _ => lifted os started H enc)

theorem proved : Rows.RootTurnsSaid :=
  over
end Go.Proofs.Ytmpkjlifcdobiaa.rootTurns
