/- The contract of shapesearchref03.Folded, and lengths of encodings. -/
import Derived.Test.YtoacbboidigphaaCodecAwake
namespace Go.Proofs.Ytoacbboidigphaa.Cd
open Go.ChangeShapes Go.WideShapes Go.RowKit Wo Bm By Cr
set_option linter.unusedVariables false
theorem folded_any (n : Int) (h0 : -9223372036854775808 ≤ n) (h1 : n ≤ 9223372036854775807) (w : World) :
    Calls Try.prog 20 #[.int .i64 n] w fun e w' => e = .returned (.int .u64 (fld n : Int)) ∧ w = w' := by
  rcases Int.lt_or_le n 0 with h | h
  · have HF : Hid (-2 * n - 1 = (fld n : Int)) := by show _ = _; unfold fld; rw [if_neg (by omega)]; omega
    have e1 : IntKind.u64.wrap (-(n + 1)) = -(n + 1) := IntWalk.u64_in _ ⟨by omega, by omega⟩
    have e2 : IntKind.u64.wrap (-(n + 1) * 2) = -(n + 1) * 2 := IntWalk.u64_in _ ⟨by omega, by omega⟩
    have e3 : IntKind.u64.wrap (-(n + 1) * 2 + 1) = -(n + 1) * 2 + 1 := IntWalk.u64_in _ ⟨by omega, by omega⟩
    go_enter Try.func20, Try.ntmps20
    go_wp2
    go_ret
    exact ⟨ret_int (by rw [← HF.out]; omega), rfl⟩
  · have HF : Hid (n * 2 = (fld n : Int)) := by show _ = _; unfold fld; rw [if_pos h]; omega
    have e2 : IntKind.u64.wrap (n * 2) = n * 2 := IntWalk.u64_in _ ⟨by omega, by omega⟩
    go_enter Try.func20, Try.ntmps20
    go_wp2
    go_ret
    exact ⟨ret_int HF.out, rfl⟩
theorem put_nil (n : Int) (l : Nat) (hl : (bytesOf n).length = l) (h0 : -9223372036854775808 ≤ n) (h1 : n ≤ 9223372036854775807) (w : World) : Calls Try.prog 9 #[.slice none 0 0, .int .i64 n] w fun e w' => ∃ h : Nat, e = .returned (.slice (some ⟨h, 0, none⟩) l 10) ∧ Bel w w' :=
  (put_any none 0 [] n h0 h1 (by decide) w (Rd.nil _ _)).mono fun e w' ⟨h, he, hown, hb⟩ => ⟨h, by rw [he]; subst hl; simp, hb⟩
end Go.Proofs.Ytoacbboidigphaa.Cd
