/- That the law RootMonotone returns true for every input that can be read, and leaves its arguments as they were; no further condition. -/
import Derived.Test.YtmpkjlifcdobiaaRows
import Derived.WalkKit
import Derived.ProofKit
import Derived.OpenShut
import Derived.Test.YtmpkjlifcdobiaaRootWalks
namespace Go.Proofs.Ytmpkjlifcdobiaa.rootMonotone
open Go.ChangeShapes Go.WideShapes Go.ChangeAt Go.RowKit
set_option linter.unusedVariables false      -- a walk need not use every 'w<i>' (that an integer argument fits its kind)

theorem own : ownKnob Try.prog.godebug = none := by kernel_rfl

open Go.Proofs.Ytmpkjlifcdobiaa.Rt in
set_option maxHeartbeats 400000 in
theorem way_lt_lt (a0 a1 a2 a3 : Int) (w : World) (pa0 : 0 ≤ a0) (qa0 : a0 ≤ 4294967295) (pa1 : 0 ≤ a1) (qa1 : a1 ≤ 4294967295) (pa2 : -32768 ≤ a2) (qa2 : a2 ≤ 32767) (pa3 : -32768 ≤ a3) (qa3 : a3 ≤ 32767) (hl : a0 < a1) (hm : a2 < a3) :
    Calls Try.prog 7 #[.int .u32 a0, .int .u32 a1, .int .i16 a2, .int .i16 a3] w fun e w' => e = .returned (.bool true) ∧ Grown w w' := by
  have HQ1 : Hid (QIn a2 (1 + a0)) := ⟨by omega, by omega, by omega, by omega⟩
  have HQ2 : Hid (QIn a3 (1 + a0)) := ⟨by omega, by omega, by omega, by omega⟩
  have HQ3 : Hid (QIn a2 (1 + a1)) := ⟨by omega, by omega, by omega, by omega⟩
  have k1 : flo a0 ≤ flo a1 := flo_mono (by omega) (by omega) (by omega)
  have k2 : cei a0 ≤ cei a1 := cei_mono (by omega) (by omega) (by omega)
  have k3 : quo a2 (1 + a0) ≤ quo a3 (1 + a0) := quo_mono HQ1.out HQ2.out (by omega)
  rcases Int.lt_or_le a2 0 with ht | ht
  · have b1 : decide (a2 < 0) = true := by simpa using ht
    go_enter Try.func7, Try.ntmps7
    go_wp2_with (first | (go_at_call 13; (first | (with_reducible refine (quo_in _ _ _ HQ1.out).mono ?_) | (with_reducible refine (quo_in _ _ _ HQ2.out).mono ?_) | (with_reducible refine (quo_in _ _ _ HQ3.out).mono ?_)); rintro e w' ⟨rfl, rfl⟩) | (go_at_call 9; refine (floor_any _ _).mono ?_; rintro e w' ⟨rfl, rfl⟩) | (go_at_call 11; refine (ceil_any _ _).mono ?_; rintro e w' ⟨rfl, rfl⟩) | (go_at_call 15; refine (awake_any _).mono ?_; rintro e w' ⟨rfl, rfl⟩))
    go_ret
    exact ⟨rfl, Grown.refl _⟩
  · have k4 : quo a2 (1 + a1) ≤ quo a2 (1 + a0) := quo_anti ht HQ1.out (by omega) HQ3.out
    have b1 : decide (a2 < 0) = false := by simpa using ht
    go_enter Try.func7, Try.ntmps7
    go_wp2_with (first | (go_at_call 13; (first | (with_reducible refine (quo_in _ _ _ HQ1.out).mono ?_) | (with_reducible refine (quo_in _ _ _ HQ2.out).mono ?_) | (with_reducible refine (quo_in _ _ _ HQ3.out).mono ?_)); rintro e w' ⟨rfl, rfl⟩) | (go_at_call 9; refine (floor_any _ _).mono ?_; rintro e w' ⟨rfl, rfl⟩) | (go_at_call 11; refine (ceil_any _ _).mono ?_; rintro e w' ⟨rfl, rfl⟩) | (go_at_call 15; refine (awake_any _).mono ?_; rintro e w' ⟨rfl, rfl⟩))
    go_ret
    exact ⟨rfl, Grown.refl _⟩
open Go.Proofs.Ytmpkjlifcdobiaa.Rt in
set_option maxHeartbeats 400000 in
theorem way_lt_gt (a0 a1 a2 a3 : Int) (w : World) (pa0 : 0 ≤ a0) (qa0 : a0 ≤ 4294967295) (pa1 : 0 ≤ a1) (qa1 : a1 ≤ 4294967295) (pa2 : -32768 ≤ a2) (qa2 : a2 ≤ 32767) (pa3 : -32768 ≤ a3) (qa3 : a3 ≤ 32767) (hl : a0 < a1) (hm : a3 < a2) :
    Calls Try.prog 7 #[.int .u32 a0, .int .u32 a1, .int .i16 a2, .int .i16 a3] w fun e w' => e = .returned (.bool true) ∧ Grown w w' := by
  have HQ1 : Hid (QIn a2 (1 + a0)) := ⟨by omega, by omega, by omega, by omega⟩
  have HQ2 : Hid (QIn a2 (1 + a0)) := ⟨by omega, by omega, by omega, by omega⟩
  have HQ3 : Hid (QIn a2 (1 + a1)) := ⟨by omega, by omega, by omega, by omega⟩
  have k1 : flo a0 ≤ flo a1 := flo_mono (by omega) (by omega) (by omega)
  have k2 : cei a0 ≤ cei a1 := cei_mono (by omega) (by omega) (by omega)
  have k3 : quo a2 (1 + a0) ≤ quo a2 (1 + a0) := quo_mono HQ1.out HQ2.out (by omega)
  rcases Int.lt_or_le a2 0 with ht | ht
  · have b1 : decide (a2 < 0) = true := by simpa using ht
    go_enter Try.func7, Try.ntmps7
    go_wp2_with (first | (go_at_call 13; (first | (with_reducible refine (quo_in _ _ _ HQ1.out).mono ?_) | (with_reducible refine (quo_in _ _ _ HQ2.out).mono ?_) | (with_reducible refine (quo_in _ _ _ HQ3.out).mono ?_)); rintro e w' ⟨rfl, rfl⟩) | (go_at_call 9; refine (floor_any _ _).mono ?_; rintro e w' ⟨rfl, rfl⟩) | (go_at_call 11; refine (ceil_any _ _).mono ?_; rintro e w' ⟨rfl, rfl⟩) | (go_at_call 15; refine (awake_any _).mono ?_; rintro e w' ⟨rfl, rfl⟩))
    go_ret
    exact ⟨rfl, Grown.refl _⟩
  · have k4 : quo a2 (1 + a1) ≤ quo a2 (1 + a0) := quo_anti ht HQ1.out (by omega) HQ3.out
    have b1 : decide (a2 < 0) = false := by simpa using ht
    go_enter Try.func7, Try.ntmps7
    go_wp2_with (first | (go_at_call 13; (first | (with_reducible refine (quo_in _ _ _ HQ1.out).mono ?_) | (with_reducible refine (quo_in _ _ _ HQ2.out).mono ?_) | (with_reducible refine (quo_in _ _ _ HQ3.out).mono ?_)); rintro e w' ⟨rfl, rfl⟩) | (go_at_call 9; refine (floor_any _ _).mono ?_; rintro e w' ⟨rfl, rfl⟩) | (go_at_call 11; refine (ceil_any _ _).mono ?_; rintro e w' ⟨rfl, rfl⟩) | (go_at_call 15; refine (awake_any _).mono ?_; rintro e w' ⟨rfl, rfl⟩))
    go_ret
    exact ⟨rfl, Grown.refl _⟩
open Go.Proofs.Ytmpkjlifcdobiaa.Rt in
set_option maxHeartbeats 400000 in
theorem way_lt_eq (a0 a1 a2 : Int) (w : World) (pa0 : 0 ≤ a0) (qa0 : a0 ≤ 4294967295) (pa1 : 0 ≤ a1) (qa1 : a1 ≤ 4294967295) (pa2 : -32768 ≤ a2) (qa2 : a2 ≤ 32767) (hl : a0 < a1)  :
    Calls Try.prog 7 #[.int .u32 a0, .int .u32 a1, .int .i16 a2, .int .i16 a2] w fun e w' => e = .returned (.bool true) ∧ Grown w w' := by
  have HQ1 : Hid (QIn a2 (1 + a0)) := ⟨by omega, by omega, by omega, by omega⟩
  have HQ2 : Hid (QIn a2 (1 + a0)) := ⟨by omega, by omega, by omega, by omega⟩
  have HQ3 : Hid (QIn a2 (1 + a1)) := ⟨by omega, by omega, by omega, by omega⟩
  have k1 : flo a0 ≤ flo a1 := flo_mono (by omega) (by omega) (by omega)
  have k2 : cei a0 ≤ cei a1 := cei_mono (by omega) (by omega) (by omega)
  have k3 : quo a2 (1 + a0) ≤ quo a2 (1 + a0) := quo_mono HQ1.out HQ2.out (by omega)
  rcases Int.lt_or_le a2 0 with ht | ht
  · have b1 : decide (a2 < 0) = true := by simpa using ht
    go_enter Try.func7, Try.ntmps7
    go_wp2_with (first | (go_at_call 13; (first | (with_reducible refine (quo_in _ _ _ HQ1.out).mono ?_) | (with_reducible refine (quo_in _ _ _ HQ2.out).mono ?_) | (with_reducible refine (quo_in _ _ _ HQ3.out).mono ?_)); rintro e w' ⟨rfl, rfl⟩) | (go_at_call 9; refine (floor_any _ _).mono ?_; rintro e w' ⟨rfl, rfl⟩) | (go_at_call 11; refine (ceil_any _ _).mono ?_; rintro e w' ⟨rfl, rfl⟩) | (go_at_call 15; refine (awake_any _).mono ?_; rintro e w' ⟨rfl, rfl⟩))
    go_ret
    exact ⟨rfl, Grown.refl _⟩
  · have k4 : quo a2 (1 + a1) ≤ quo a2 (1 + a0) := quo_anti ht HQ1.out (by omega) HQ3.out
    have b1 : decide (a2 < 0) = false := by simpa using ht
    go_enter Try.func7, Try.ntmps7
    go_wp2_with (first | (go_at_call 13; (first | (with_reducible refine (quo_in _ _ _ HQ1.out).mono ?_) | (with_reducible refine (quo_in _ _ _ HQ2.out).mono ?_) | (with_reducible refine (quo_in _ _ _ HQ3.out).mono ?_)); rintro e w' ⟨rfl, rfl⟩) | (go_at_call 9; refine (floor_any _ _).mono ?_; rintro e w' ⟨rfl, rfl⟩) | (go_at_call 11; refine (ceil_any _ _).mono ?_; rintro e w' ⟨rfl, rfl⟩) | (go_at_call 15; refine (awake_any _).mono ?_; rintro e w' ⟨rfl, rfl⟩))
    go_ret
    exact ⟨rfl, Grown.refl _⟩
open Go.Proofs.Ytmpkjlifcdobiaa.Rt in
set_option maxHeartbeats 400000 in
theorem way_gt_lt (a0 a1 a2 a3 : Int) (w : World) (pa0 : 0 ≤ a0) (qa0 : a0 ≤ 4294967295) (pa1 : 0 ≤ a1) (qa1 : a1 ≤ 4294967295) (pa2 : -32768 ≤ a2) (qa2 : a2 ≤ 32767) (pa3 : -32768 ≤ a3) (qa3 : a3 ≤ 32767) (hl : a1 < a0) (hm : a2 < a3) :
    Calls Try.prog 7 #[.int .u32 a0, .int .u32 a1, .int .i16 a2, .int .i16 a3] w fun e w' => e = .returned (.bool true) ∧ Grown w w' := by
  have HQ1 : Hid (QIn a2 (1 + a1)) := ⟨by omega, by omega, by omega, by omega⟩
  have HQ2 : Hid (QIn a3 (1 + a1)) := ⟨by omega, by omega, by omega, by omega⟩
  have HQ3 : Hid (QIn a2 (1 + a0)) := ⟨by omega, by omega, by omega, by omega⟩
  have k1 : flo a1 ≤ flo a0 := flo_mono (by omega) (by omega) (by omega)
  have k2 : cei a1 ≤ cei a0 := cei_mono (by omega) (by omega) (by omega)
  have k3 : quo a2 (1 + a1) ≤ quo a3 (1 + a1) := quo_mono HQ1.out HQ2.out (by omega)
  rcases Int.lt_or_le a2 0 with ht | ht
  · have b1 : decide (a2 < 0) = true := by simpa using ht
    go_enter Try.func7, Try.ntmps7
    go_wp2_with (first | (go_at_call 13; (first | (with_reducible refine (quo_in _ _ _ HQ1.out).mono ?_) | (with_reducible refine (quo_in _ _ _ HQ2.out).mono ?_) | (with_reducible refine (quo_in _ _ _ HQ3.out).mono ?_)); rintro e w' ⟨rfl, rfl⟩) | (go_at_call 9; refine (floor_any _ _).mono ?_; rintro e w' ⟨rfl, rfl⟩) | (go_at_call 11; refine (ceil_any _ _).mono ?_; rintro e w' ⟨rfl, rfl⟩) | (go_at_call 15; refine (awake_any _).mono ?_; rintro e w' ⟨rfl, rfl⟩))
    go_ret
    exact ⟨rfl, Grown.refl _⟩
  · have k4 : quo a2 (1 + a0) ≤ quo a2 (1 + a1) := quo_anti ht HQ1.out (by omega) HQ3.out
    have b1 : decide (a2 < 0) = false := by simpa using ht
    go_enter Try.func7, Try.ntmps7
    go_wp2_with (first | (go_at_call 13; (first | (with_reducible refine (quo_in _ _ _ HQ1.out).mono ?_) | (with_reducible refine (quo_in _ _ _ HQ2.out).mono ?_) | (with_reducible refine (quo_in _ _ _ HQ3.out).mono ?_)); rintro e w' ⟨rfl, rfl⟩) | (go_at_call 9; refine (floor_any _ _).mono ?_; rintro e w' ⟨rfl, rfl⟩) | (go_at_call 11; refine (ceil_any _ _).mono ?_; rintro e w' ⟨rfl, rfl⟩) | (go_at_call 15; refine (awake_any _).mono ?_; rintro e w' ⟨rfl, rfl⟩))
    go_ret
    exact ⟨rfl, Grown.refl _⟩
open Go.Proofs.Ytmpkjlifcdobiaa.Rt in
set_option maxHeartbeats 400000 in
theorem way_gt_gt (a0 a1 a2 a3 : Int) (w : World) (pa0 : 0 ≤ a0) (qa0 : a0 ≤ 4294967295) (pa1 : 0 ≤ a1) (qa1 : a1 ≤ 4294967295) (pa2 : -32768 ≤ a2) (qa2 : a2 ≤ 32767) (pa3 : -32768 ≤ a3) (qa3 : a3 ≤ 32767) (hl : a1 < a0) (hm : a3 < a2) :
    Calls Try.prog 7 #[.int .u32 a0, .int .u32 a1, .int .i16 a2, .int .i16 a3] w fun e w' => e = .returned (.bool true) ∧ Grown w w' := by
  have HQ1 : Hid (QIn a2 (1 + a1)) := ⟨by omega, by omega, by omega, by omega⟩
  have HQ2 : Hid (QIn a2 (1 + a1)) := ⟨by omega, by omega, by omega, by omega⟩
  have HQ3 : Hid (QIn a2 (1 + a0)) := ⟨by omega, by omega, by omega, by omega⟩
  have k1 : flo a1 ≤ flo a0 := flo_mono (by omega) (by omega) (by omega)
  have k2 : cei a1 ≤ cei a0 := cei_mono (by omega) (by omega) (by omega)
  have k3 : quo a2 (1 + a1) ≤ quo a2 (1 + a1) := quo_mono HQ1.out HQ2.out (by omega)
  rcases Int.lt_or_le a2 0 with ht | ht
  · have b1 : decide (a2 < 0) = true := by simpa using ht
    go_enter Try.func7, Try.ntmps7
    go_wp2_with (first | (go_at_call 13; (first | (with_reducible refine (quo_in _ _ _ HQ1.out).mono ?_) | (with_reducible refine (quo_in _ _ _ HQ2.out).mono ?_) | (with_reducible refine (quo_in _ _ _ HQ3.out).mono ?_)); rintro e w' ⟨rfl, rfl⟩) | (go_at_call 9; refine (floor_any _ _).mono ?_; rintro e w' ⟨rfl, rfl⟩) | (go_at_call 11; refine (ceil_any _ _).mono ?_; rintro e w' ⟨rfl, rfl⟩) | (go_at_call 15; refine (awake_any _).mono ?_; rintro e w' ⟨rfl, rfl⟩))
    go_ret
    exact ⟨rfl, Grown.refl _⟩
  · have k4 : quo a2 (1 + a0) ≤ quo a2 (1 + a1) := quo_anti ht HQ1.out (by omega) HQ3.out
    have b1 : decide (a2 < 0) = false := by simpa using ht
    go_enter Try.func7, Try.ntmps7
    go_wp2_with (first | (go_at_call 13; (first | (with_reducible refine (quo_in _ _ _ HQ1.out).mono ?_) | (with_reducible refine (quo_in _ _ _ HQ2.out).mono ?_) | (with_reducible refine (quo_in _ _ _ HQ3.out).mono ?_)); rintro e w' ⟨rfl, rfl⟩) | (go_at_call 9; refine (floor_any _ _).mono ?_; rintro e w' ⟨rfl, rfl⟩) | (go_at_call 11; refine (ceil_any _ _).mono ?_; rintro e w' ⟨rfl, rfl⟩) | (go_at_call 15; refine (awake_any _).mono ?_; rintro e w' ⟨rfl, rfl⟩))
    go_ret
    exact ⟨rfl, Grown.refl _⟩
open Go.Proofs.Ytmpkjlifcdobiaa.Rt in
set_option maxHeartbeats 400000 in
theorem way_gt_eq (a0 a1 a2 : Int) (w : World) (pa0 : 0 ≤ a0) (qa0 : a0 ≤ 4294967295) (pa1 : 0 ≤ a1) (qa1 : a1 ≤ 4294967295) (pa2 : -32768 ≤ a2) (qa2 : a2 ≤ 32767) (hl : a1 < a0)  :
    Calls Try.prog 7 #[.int .u32 a0, .int .u32 a1, .int .i16 a2, .int .i16 a2] w fun e w' => e = .returned (.bool true) ∧ Grown w w' := by
  have HQ1 : Hid (QIn a2 (1 + a1)) := ⟨by omega, by omega, by omega, by omega⟩
  have HQ2 : Hid (QIn a2 (1 + a1)) := ⟨by omega, by omega, by omega, by omega⟩
  have HQ3 : Hid (QIn a2 (1 + a0)) := ⟨by omega, by omega, by omega, by omega⟩
  have k1 : flo a1 ≤ flo a0 := flo_mono (by omega) (by omega) (by omega)
  have k2 : cei a1 ≤ cei a0 := cei_mono (by omega) (by omega) (by omega)
  have k3 : quo a2 (1 + a1) ≤ quo a2 (1 + a1) := quo_mono HQ1.out HQ2.out (by omega)
  rcases Int.lt_or_le a2 0 with ht | ht
  · have b1 : decide (a2 < 0) = true := by simpa using ht
    go_enter Try.func7, Try.ntmps7
    go_wp2_with (first | (go_at_call 13; (first | (with_reducible refine (quo_in _ _ _ HQ1.out).mono ?_) | (with_reducible refine (quo_in _ _ _ HQ2.out).mono ?_) | (with_reducible refine (quo_in _ _ _ HQ3.out).mono ?_)); rintro e w' ⟨rfl, rfl⟩) | (go_at_call 9; refine (floor_any _ _).mono ?_; rintro e w' ⟨rfl, rfl⟩) | (go_at_call 11; refine (ceil_any _ _).mono ?_; rintro e w' ⟨rfl, rfl⟩) | (go_at_call 15; refine (awake_any _).mono ?_; rintro e w' ⟨rfl, rfl⟩))
    go_ret
    exact ⟨rfl, Grown.refl _⟩
  · have k4 : quo a2 (1 + a0) ≤ quo a2 (1 + a1) := quo_anti ht HQ1.out (by omega) HQ3.out
    have b1 : decide (a2 < 0) = false := by simpa using ht
    go_enter Try.func7, Try.ntmps7
    go_wp2_with (first | (go_at_call 13; (first | (with_reducible refine (quo_in _ _ _ HQ1.out).mono ?_) | (with_reducible refine (quo_in _ _ _ HQ2.out).mono ?_) | (with_reducible refine (quo_in _ _ _ HQ3.out).mono ?_)); rintro e w' ⟨rfl, rfl⟩) | (go_at_call 9; refine (floor_any _ _).mono ?_; rintro e w' ⟨rfl, rfl⟩) | (go_at_call 11; refine (ceil_any _ _).mono ?_; rintro e w' ⟨rfl, rfl⟩) | (go_at_call 15; refine (awake_any _).mono ?_; rintro e w' ⟨rfl, rfl⟩))
    go_ret
    exact ⟨rfl, Grown.refl _⟩
open Go.Proofs.Ytmpkjlifcdobiaa.Rt in
set_option maxHeartbeats 400000 in
theorem way_eq_lt (a0 a2 a3 : Int) (w : World) (pa0 : 0 ≤ a0) (qa0 : a0 ≤ 4294967295) (pa2 : -32768 ≤ a2) (qa2 : a2 ≤ 32767) (pa3 : -32768 ≤ a3) (qa3 : a3 ≤ 32767)  (hm : a2 < a3) :
    Calls Try.prog 7 #[.int .u32 a0, .int .u32 a0, .int .i16 a2, .int .i16 a3] w fun e w' => e = .returned (.bool true) ∧ Grown w w' := by
  have HQ1 : Hid (QIn a2 (1 + a0)) := ⟨by omega, by omega, by omega, by omega⟩
  have HQ2 : Hid (QIn a3 (1 + a0)) := ⟨by omega, by omega, by omega, by omega⟩
  have HQ3 : Hid (QIn a2 (1 + a0)) := ⟨by omega, by omega, by omega, by omega⟩
  have k1 : flo a0 ≤ flo a0 := flo_mono (by omega) (by omega) (by omega)
  have k2 : cei a0 ≤ cei a0 := cei_mono (by omega) (by omega) (by omega)
  have k3 : quo a2 (1 + a0) ≤ quo a3 (1 + a0) := quo_mono HQ1.out HQ2.out (by omega)
  rcases Int.lt_or_le a2 0 with ht | ht
  · have b1 : decide (a2 < 0) = true := by simpa using ht
    go_enter Try.func7, Try.ntmps7
    go_wp2_with (first | (go_at_call 13; (first | (with_reducible refine (quo_in _ _ _ HQ1.out).mono ?_) | (with_reducible refine (quo_in _ _ _ HQ2.out).mono ?_) | (with_reducible refine (quo_in _ _ _ HQ3.out).mono ?_)); rintro e w' ⟨rfl, rfl⟩) | (go_at_call 9; refine (floor_any _ _).mono ?_; rintro e w' ⟨rfl, rfl⟩) | (go_at_call 11; refine (ceil_any _ _).mono ?_; rintro e w' ⟨rfl, rfl⟩) | (go_at_call 15; refine (awake_any _).mono ?_; rintro e w' ⟨rfl, rfl⟩))
    go_ret
    exact ⟨rfl, Grown.refl _⟩
  · have k4 : quo a2 (1 + a0) ≤ quo a2 (1 + a0) := quo_anti ht HQ1.out (by omega) HQ3.out
    have b1 : decide (a2 < 0) = false := by simpa using ht
    go_enter Try.func7, Try.ntmps7
    go_wp2_with (first | (go_at_call 13; (first | (with_reducible refine (quo_in _ _ _ HQ1.out).mono ?_) | (with_reducible refine (quo_in _ _ _ HQ2.out).mono ?_) | (with_reducible refine (quo_in _ _ _ HQ3.out).mono ?_)); rintro e w' ⟨rfl, rfl⟩) | (go_at_call 9; refine (floor_any _ _).mono ?_; rintro e w' ⟨rfl, rfl⟩) | (go_at_call 11; refine (ceil_any _ _).mono ?_; rintro e w' ⟨rfl, rfl⟩) | (go_at_call 15; refine (awake_any _).mono ?_; rintro e w' ⟨rfl, rfl⟩))
    go_ret
    exact ⟨rfl, Grown.refl _⟩
open Go.Proofs.Ytmpkjlifcdobiaa.Rt in
set_option maxHeartbeats 400000 in
theorem way_eq_gt (a0 a2 a3 : Int) (w : World) (pa0 : 0 ≤ a0) (qa0 : a0 ≤ 4294967295) (pa2 : -32768 ≤ a2) (qa2 : a2 ≤ 32767) (pa3 : -32768 ≤ a3) (qa3 : a3 ≤ 32767)  (hm : a3 < a2) :
    Calls Try.prog 7 #[.int .u32 a0, .int .u32 a0, .int .i16 a2, .int .i16 a3] w fun e w' => e = .returned (.bool true) ∧ Grown w w' := by
  have HQ1 : Hid (QIn a2 (1 + a0)) := ⟨by omega, by omega, by omega, by omega⟩
  have HQ2 : Hid (QIn a2 (1 + a0)) := ⟨by omega, by omega, by omega, by omega⟩
  have HQ3 : Hid (QIn a2 (1 + a0)) := ⟨by omega, by omega, by omega, by omega⟩
  have k1 : flo a0 ≤ flo a0 := flo_mono (by omega) (by omega) (by omega)
  have k2 : cei a0 ≤ cei a0 := cei_mono (by omega) (by omega) (by omega)
  have k3 : quo a2 (1 + a0) ≤ quo a2 (1 + a0) := quo_mono HQ1.out HQ2.out (by omega)
  rcases Int.lt_or_le a2 0 with ht | ht
  · have b1 : decide (a2 < 0) = true := by simpa using ht
    go_enter Try.func7, Try.ntmps7
    go_wp2_with (first | (go_at_call 13; (first | (with_reducible refine (quo_in _ _ _ HQ1.out).mono ?_) | (with_reducible refine (quo_in _ _ _ HQ2.out).mono ?_) | (with_reducible refine (quo_in _ _ _ HQ3.out).mono ?_)); rintro e w' ⟨rfl, rfl⟩) | (go_at_call 9; refine (floor_any _ _).mono ?_; rintro e w' ⟨rfl, rfl⟩) | (go_at_call 11; refine (ceil_any _ _).mono ?_; rintro e w' ⟨rfl, rfl⟩) | (go_at_call 15; refine (awake_any _).mono ?_; rintro e w' ⟨rfl, rfl⟩))
    go_ret
    exact ⟨rfl, Grown.refl _⟩
  · have k4 : quo a2 (1 + a0) ≤ quo a2 (1 + a0) := quo_anti ht HQ1.out (by omega) HQ3.out
    have b1 : decide (a2 < 0) = false := by simpa using ht
    go_enter Try.func7, Try.ntmps7
    go_wp2_with (first | (go_at_call 13; (first | (with_reducible refine (quo_in _ _ _ HQ1.out).mono ?_) | (with_reducible refine (quo_in _ _ _ HQ2.out).mono ?_) | (with_reducible refine (quo_in _ _ _ HQ3.out).mono ?_)); rintro e w' ⟨rfl, rfl⟩) | (go_at_call 9; refine (floor_any _ _).mono ?_; rintro e w' ⟨rfl, rfl⟩) | (go_at_call 11; refine (ceil_any _ _).mono ?_; rintro e w' ⟨rfl, rfl⟩) | (go_at_call 15; refine (awake_any _).mono ?_; rintro e w' ⟨rfl, rfl⟩))
    go_ret
    exact ⟨rfl, Grown.refl _⟩
open Go.Proofs.Ytmpkjlifcdobiaa.Rt in
set_option maxHeartbeats 400000 in
theorem way_eq_eq (a0 a2 : Int) (w : World) (pa0 : 0 ≤ a0) (qa0 : a0 ≤ 4294967295) (pa2 : -32768 ≤ a2) (qa2 : a2 ≤ 32767)   :
    Calls Try.prog 7 #[.int .u32 a0, .int .u32 a0, .int .i16 a2, .int .i16 a2] w fun e w' => e = .returned (.bool true) ∧ Grown w w' := by
  have HQ1 : Hid (QIn a2 (1 + a0)) := ⟨by omega, by omega, by omega, by omega⟩
  have HQ2 : Hid (QIn a2 (1 + a0)) := ⟨by omega, by omega, by omega, by omega⟩
  have HQ3 : Hid (QIn a2 (1 + a0)) := ⟨by omega, by omega, by omega, by omega⟩
  have k1 : flo a0 ≤ flo a0 := flo_mono (by omega) (by omega) (by omega)
  have k2 : cei a0 ≤ cei a0 := cei_mono (by omega) (by omega) (by omega)
  have k3 : quo a2 (1 + a0) ≤ quo a2 (1 + a0) := quo_mono HQ1.out HQ2.out (by omega)
  rcases Int.lt_or_le a2 0 with ht | ht
  · have b1 : decide (a2 < 0) = true := by simpa using ht
    go_enter Try.func7, Try.ntmps7
    go_wp2_with (first | (go_at_call 13; (first | (with_reducible refine (quo_in _ _ _ HQ1.out).mono ?_) | (with_reducible refine (quo_in _ _ _ HQ2.out).mono ?_) | (with_reducible refine (quo_in _ _ _ HQ3.out).mono ?_)); rintro e w' ⟨rfl, rfl⟩) | (go_at_call 9; refine (floor_any _ _).mono ?_; rintro e w' ⟨rfl, rfl⟩) | (go_at_call 11; refine (ceil_any _ _).mono ?_; rintro e w' ⟨rfl, rfl⟩) | (go_at_call 15; refine (awake_any _).mono ?_; rintro e w' ⟨rfl, rfl⟩))
    go_ret
    exact ⟨rfl, Grown.refl _⟩
  · have k4 : quo a2 (1 + a0) ≤ quo a2 (1 + a0) := quo_anti ht HQ1.out (by omega) HQ3.out
    have b1 : decide (a2 < 0) = false := by simpa using ht
    go_enter Try.func7, Try.ntmps7
    go_wp2_with (first | (go_at_call 13; (first | (with_reducible refine (quo_in _ _ _ HQ1.out).mono ?_) | (with_reducible refine (quo_in _ _ _ HQ2.out).mono ?_) | (with_reducible refine (quo_in _ _ _ HQ3.out).mono ?_)); rintro e w' ⟨rfl, rfl⟩) | (go_at_call 9; refine (floor_any _ _).mono ?_; rintro e w' ⟨rfl, rfl⟩) | (go_at_call 11; refine (ceil_any _ _).mono ?_; rintro e w' ⟨rfl, rfl⟩) | (go_at_call 15; refine (awake_any _).mono ?_; rintro e w' ⟨rfl, rfl⟩))
    go_ret
    exact ⟨rfl, Grown.refl _⟩
theorem walk (a0 : Int) (a1 : Int) (a2 : Int) (a3 : Int) (w0 : (Lit.int .u32 a0).wf = true) (w1 : (Lit.int .u32 a1).wf = true) (w2 : (Lit.int .i16 a2).wf = true) (w3 : (Lit.int .i16 a3).wf = true) (w : World) :
    Calls Try.prog 7 #[.int .u32 a0, .int .u32 a1, .int .i16 a2, .int .i16 a3] w fun e w' => e = .returned (.bool true) ∧ Grown w w' := by
  have hb0 := bounds_u32 w0
  have hb1 := bounds_u32 w1
  have hb2 := bounds_i16 w2
  have hb3 := bounds_i16 w3
  have hc0 := hb0.1
  have hc1 := hb0.2
  have hc2 := hb1.1
  have hc3 := hb1.2
  have hc4 := hb2.1
  have hc5 := hb2.2
  have hc6 := hb3.1
  have hc7 := hb3.2
  clear hb0 hb1 hb2 hb3
  rcases Int.lt_trichotomy a0 a1 with hl | hl | hl <;> rcases Int.lt_trichotomy a2 a3 with hm | hm | hm
  · exact way_lt_lt _ _ _ _ w (by omega) (by omega) (by omega) (by omega) (by omega) (by omega) (by omega) (by omega) (by omega) (by omega)
  · subst hm; exact way_lt_eq _ _ _ w (by omega) (by omega) (by omega) (by omega) (by omega) (by omega) (by omega)
  · exact way_lt_gt _ _ _ _ w (by omega) (by omega) (by omega) (by omega) (by omega) (by omega) (by omega) (by omega) (by omega) (by omega)
  · subst hl; exact way_eq_lt _ _ _ w (by omega) (by omega) (by omega) (by omega) (by omega) (by omega) (by omega)
  · subst hl; subst hm; exact way_eq_eq _ _ w (by omega) (by omega) (by omega) (by omega)
  · subst hl; exact way_eq_gt _ _ _ w (by omega) (by omega) (by omega) (by omega) (by omega) (by omega) (by omega)
  · exact way_gt_lt _ _ _ _ w (by omega) (by omega) (by omega) (by omega) (by omega) (by omega) (by omega) (by omega) (by omega) (by omega)
  · subst hm; exact way_gt_eq _ _ _ w (by omega) (by omega) (by omega) (by omega) (by omega) (by omega) (by omega)
  · exact way_gt_gt _ _ _ _ w (by omega) (by omega) (by omega) (by omega) (by omega) (by omega) (by omega) (by omega) (by omega) (by omega)

set_option maxRecDepth 100000 in
theorem lifted (os : Os) (started : os.Started) (H : Type) (enc : TypeId × Value → H) :
    ReturnsInHanded {} Try.checked os 7 .any (Rows.rootMonotoneSpec.pre6 enc Try.prog Try.f7 Rows.rootMonotoneRow.domain false) (Rows.rootMonotoneSpec.post enc Try.prog Try.f7 false true false false) := by
  refine returnsInHanded_of_change (C := Try.checked) own started (by kernel_rfl) Try.func7
    (ChangeSpec.witness6 (enc := enc) (C := Try.checked) false ⟨#[], #[.int .u32 0, .int .u32 0, .int .i16 0, .int .i16 0], []⟩ 8 (by kernel_rfl) (by kernel_rfl) (by kernel_rfl) (by kernel_rfl)) ?_
  intro W base args ds gs before hval0 hW hcnd _
  have hval : ∀ (j : Nat) t v, Try.f7.params[j]? = some t → args[j]? = some v → Value.okWide Try.prog W .any base t v := hval0
  have hW' := hW
  obtain ⟨p, q, hA0, hV, rfl, hfz, hnd⟩ := hW
  have hA : DataW.TrodAll enc Try.prog W 0 (fun _ => true) true Try.f7.params.toList args.toList ds p := hA0
  rw [Try.params7] at hA hval
  obtain ⟨v0, vs0, d0, ds0, p0, q0, hargs, rfl, rfl, h0, r0⟩ := trodAll_cons hA
  obtain ⟨v1, vs1, d1, ds1, p1, q1, rfl, rfl, rfl, h1, r1⟩ := trodAll_cons r0
  obtain ⟨v2, vs2, d2, ds2, p2, q2, rfl, rfl, rfl, h2, r2⟩ := trodAll_cons r1
  obtain ⟨v3, vs3, d3, ds3, p3, q3, rfl, rfl, rfl, h3, r3⟩ := trodAll_cons r2
  obtain ⟨rfl, rfl, rfl⟩ := trodAll_nil r3
  obtain rfl : args = #[v0, v1, v2, v3] := by cases args; simp_all
  obtain ⟨rfl, rfl⟩ := trodVars_none hV
  obtain ⟨a0, rfl, rfl, rfl, w0⟩ := open_int Try.underlying34 (hval 0 34 v0 rfl rfl) h0
  obtain ⟨a1, rfl, rfl, rfl, w1⟩ := open_int Try.underlying34 (hval 1 34 v1 rfl rfl) h1
  obtain ⟨a2, rfl, rfl, rfl, w2⟩ := open_int Try.underlying36 (hval 2 36 v2 rfl rfl) h2
  obtain ⟨a3, rfl, rfl, rfl, w3⟩ := open_int Try.underlying36 (hval 3 36 v3 rfl rfl) h3
  clear hA0 hval0
  simp only [List.append_nil] at hW'
  refine (walk a0 a1 a2 a3 w0 w1 w2 w3 W).mono fun e W' ⟨he, hg⟩ => ?_
  subst he
  exact ⟨_, rfl, post_of_same (pa := []) (pv := []) hW' (fun _ _ _ => (trodAll_cons_mk (shut_bool Try.underlying4 _) trodAll_mk0)) (fun sp _ => (trodAll_cons_mk (shut_int Try.underlying34 w0) (trodAll_cons_mk (shut_int Try.underlying34 w1) (trodAll_cons_mk (shut_int Try.underlying36 w2) (trodAll_cons_mk (shut_int Try.underlying36 w3) trodAll_mk0))))) (fun _ _ => rfl) rfl
    (hg.frame _) hg.2.1 (ok_one (by kernel_rfl) rfl (okWide_bool_mk Try.underlying4 _))⟩

theorem over : Rows.rootMonotoneRow.holds Try.pinned (OpenSpec.ofChange Rows.rootMonotoneSpec) :=
  OpenClaim.holds_of_wide 7 Try.f7 rfl rfl rfl rfl rfl rfl rfl ⟨rfl, rfl, rfl, rfl, rfl⟩ rfl rfl rfl rfl rfl (by kernel_rfl) Try.func7 (by kernel_rfl)
    (of_decide_eq_true (by kernel_rfl)) (by unfold Func.isWrapper; first | (rw [if_pos (by decide +kernel)]; kernel_rfl) | (rw [if_neg (by decide +kernel)]; exact ⟨rfl, rfl⟩))
    (fun os started H enc _ => lifted os started H enc)

theorem proved : Rows.RootMonotoneSaid :=
  over
end Go.Proofs.Ytmpkjlifcdobiaa.rootMonotone
