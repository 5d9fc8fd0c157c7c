/- That the law RootSquares returns true for every input that can be read, and leaves its arguments as they were; no further condition. -/
import Derived.Test.YtmpkjlifcdobiaaRows
import Derived.WalkKit
import Derived.ProofKit
import Derived.OpenShut
import Derived.Test.YtmpkjlifcdobiaaRootWalks
namespace Go.Proofs.Ytmpkjlifcdobiaa.rootSquares
open Go.ChangeShapes Go.WideShapes Go.ChangeAt Go.RowKit
set_option linter.unusedVariables false      -- a walk need not use every 'w<i>' (that an integer argument fits its kind)

theorem own : ownKnob Try.prog.godebug = none := by kernel_rfl

open Go.Proofs.Ytmpkjlifcdobiaa.Rt in
theorem facts (x : Int) (h0 : 0 ≤ x) (h1 : x < 4611686018427387904) : flo x < 2147483648 ∧ 0 ≤ flo x ∧ 0 ≤ flo x * flo x ∧ flo x * flo x ≤ x ∧ x < (flo x + 1) * (flo x + 1) ∧ (flo x + 1) * (flo x + 1) ≤ 4611686018427387904 ∧
    (flo x * flo x = x ∧ cei x = flo x ∨ flo x * flo x < x ∧ cei x = flo x + 1) := by
  have s := flo_sq h0 (by omega)
  have b := flo_bd x
  have l : flo x < 2147483648 := of_sq_lt (by omega) (by decide)
  have p : (flo x + 1) * (flo x + 1) ≤ 4611686018427387904 := sq_mono (b := 2147483648) (by omega) (by omega)
  refine ⟨l, b.1, Int.mul_nonneg b.1 b.1, s.1, s.2, p, ?_⟩
  have e := flo_in (n := x) h0 (by omega)
  rcases Classical.em (isq x * isq x < x) with g | g
  · exact .inr ⟨by rw [e]; exact g, by rw [cei_up h0 (by omega) g, e]⟩
  · exact .inl ⟨by rw [e]; rw [e] at s; omega, by rw [cei_eq h0 (by omega) g, e]⟩
open Go.Proofs.Ytmpkjlifcdobiaa.Rt in
theorem walk (a0 : Int) (w0 : (Lit.int .u64 a0).wf = true) (w : World) :
    Calls Try.prog 4 #[.int .u64 a0] w fun e w' => e = .returned (.bool true) ∧ Grown w w' := by
  have hb := bounds_u64 w0
  have hx0 : 0 ≤ a0 % 4611686018427387904 := by omega
  have hx1 : a0 % 4611686018427387904 < 4611686018427387904 := by omega
  have hb0 := hb.1
  have hb1 := hb.2
  obtain ⟨g1, g2, g3, g4, g5, g6, g7⟩ := facts _ hx0 hx1
  clear hb
  have t1 : (flo (a0 % 4611686018427387904) == 2147483648) = false := by simp; omega
  rcases g7 with ⟨k1, k2⟩ | ⟨k1, k2⟩
  · have t2 : (flo (a0 % 4611686018427387904) * flo (a0 % 4611686018427387904) == a0 % 4611686018427387904) = true := by simpa using k1
    have t4 : a0 % 4611686018427387904 ≤ flo (a0 % 4611686018427387904) * flo (a0 % 4611686018427387904) := by omega
    clear k1
    go_enter Try.func4, Try.ntmps4
    go_wp2_with (first | (go_at_call 9; refine (floor_any _ _).mono ?_; rintro e w' ⟨rfl, rfl⟩) | (go_at_call 11; refine (ceil_any _ _).mono ?_; rintro e w' ⟨rfl, rfl⟩) | (go_at_call 15; refine (awake_any _).mono ?_; rintro e w' ⟨rfl, rfl⟩))
    go_ret
    exact ⟨rfl, Grown.refl _⟩
  · have t2 : (flo (a0 % 4611686018427387904) * flo (a0 % 4611686018427387904) == a0 % 4611686018427387904) = false := by simp; omega
    have t3 : (flo (a0 % 4611686018427387904) == flo (a0 % 4611686018427387904) + 1) = false := by simp; omega
    go_enter Try.func4, Try.ntmps4
    go_wp2_with (first | (go_at_call 9; refine (floor_any _ _).mono ?_; rintro e w' ⟨rfl, rfl⟩) | (go_at_call 11; refine (ceil_any _ _).mono ?_; rintro e w' ⟨rfl, rfl⟩) | (go_at_call 15; refine (awake_any _).mono ?_; rintro e w' ⟨rfl, rfl⟩))
    go_ret
    exact ⟨rfl, Grown.refl _⟩

set_option maxRecDepth 100000 in
theorem lifted (os : Os) (started : os.Started) (H : Type) (enc : TypeId × Value → H) :
    ReturnsInHanded {} Try.checked os 4 .any (Rows.rootSquaresSpec.pre6 enc Try.prog Try.f4 Rows.rootSquaresRow.domain false) (Rows.rootSquaresSpec.post enc Try.prog Try.f4 false true false false) := by
  refine returnsInHanded_of_change (C := Try.checked) own started (by kernel_rfl) Try.func4
    (ChangeSpec.witness6 (enc := enc) (C := Try.checked) false ⟨#[], #[.int .u64 0], []⟩ 8 (by kernel_rfl) (by kernel_rfl) (by kernel_rfl) (by kernel_rfl)) ?_
  intro W base args ds gs before hval0 hW hcnd _
  have hval : ∀ (j : Nat) t v, Try.f4.params[j]? = some t → args[j]? = some v → Value.okWide Try.prog W .any base t v := hval0
  have hW' := hW
  obtain ⟨p, q, hA0, hV, rfl, hfz, hnd⟩ := hW
  have hA : DataW.TrodAll enc Try.prog W 0 (fun _ => true) true Try.f4.params.toList args.toList ds p := hA0
  rw [Try.params4] at hA hval
  obtain ⟨v0, vs0, d0, ds0, p0, q0, hargs, rfl, rfl, h0, r0⟩ := trodAll_cons hA
  obtain ⟨rfl, rfl, rfl⟩ := trodAll_nil r0
  obtain rfl : args = #[v0] := by cases args; simp_all
  obtain ⟨rfl, rfl⟩ := trodVars_none hV
  obtain ⟨a0, rfl, rfl, rfl, w0⟩ := open_int Try.underlying31 (hval 0 31 v0 rfl rfl) h0
  clear hA0 hval0
  simp only [List.append_nil] at hW'
  refine (walk a0 w0 W).mono fun e W' ⟨he, hg⟩ => ?_
  subst he
  exact ⟨_, rfl, post_of_same (pa := []) (pv := []) hW' (fun _ _ _ => (trodAll_cons_mk (shut_bool Try.underlying4 _) trodAll_mk0)) (fun sp _ => (trodAll_cons_mk (shut_int Try.underlying31 w0) trodAll_mk0)) (fun _ _ => rfl) rfl
    (hg.frame _) hg.2.1 (ok_one (by kernel_rfl) rfl (okWide_bool_mk Try.underlying4 _))⟩

theorem over : Rows.rootSquaresRow.holds Try.pinned (OpenSpec.ofChange Rows.rootSquaresSpec) :=
  OpenClaim.holds_of_wide 4 Try.f4 rfl rfl rfl rfl rfl rfl rfl ⟨rfl, rfl, rfl, rfl, rfl⟩ rfl rfl rfl rfl rfl (by kernel_rfl) Try.func4 (by kernel_rfl)
    (of_decide_eq_true (by kernel_rfl)) (by unfold Func.isWrapper; first | (rw [if_pos (by decide +kernel)]; kernel_rfl) | (rw [if_neg (by decide +kernel)]; exact ⟨rfl, rfl⟩))
    (fun os started H enc _ => lifted os started H enc)

theorem proved : Rows.RootSquaresSaid :=
  over
end Go.Proofs.Ytmpkjlifcdobiaa.rootSquares
