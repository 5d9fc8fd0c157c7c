/- That the law CodecLengths returns true for every input that can be read, and leaves its arguments as they were; no further condition. -/
import Derived.Test.YtoacbboidigphaaRows
import Derived.WalkKit
import Derived.ProofKit
import Derived.OpenShut
import Derived.Test.YtoacbboidigphaaWords
import Derived.Test.YtoacbboidigphaaCodecLen
import Derived.ShutString
namespace Go.Proofs.Ytoacbboidigphaa.codecLengths
open Go.ChangeShapes Go.WideShapes Go.ChangeAt Go.RowKit Wo
open Go.ChangeMaps (open_string shut_string)
set_option linter.unusedVariables false      -- a walk need not use every 'w<i>' (that an integer argument fits its kind)

theorem own : ownKnob Try.prog.godebug = none := by kernel_rfl

open Go.Proofs.Ytoacbboidigphaa.Cd Go.Proofs.Ytoacbboidigphaa.Wo in
set_option maxHeartbeats 4000000 in
set_option maxRecDepth 100000 in
theorem walk (a0 : Int) (a1 : Int) (w0 : (Lit.int .i64 a0).wf = true) (w1 : (Lit.int .i64 a1).wf = true) (w : World) :
    Calls Try.prog 7 #[.int .i64 a0, .int .i64 a1] w fun e w' => e = .returned (.bool true) ∧ Below w.heap.size w w' := by
  have b0 := bounds_i64 w0
  have b1 := bounds_i64 w1
  have hW := Lib.hid (And.intro w0 w1)
  obtain ⟨la, hla⟩ : ∃ l, (bytesOf a0).length = l := ⟨_, rfl⟩
  obtain ⟨lb, hlb⟩ : ∃ l, (bytesOf a1).length = l := ⟨_, rfl⟩
  have PA := Lib.hid (fun w => put_nil a0 la hla b0.1 b0.2 w)
  have PB := Lib.hid (fun w => put_nil a1 lb hlb b1.1 b1.2 w)
  have FA := fun w => folded_any a0 b0.1 b0.2 w
  have FB := fun w => folded_any a1 b1.1 b1.2 w
  have l1 := enc_len 9 (fld a0)
  have l2 := enc_len 9 (fld a1)
  have lm := enc_mono 9 (fld a0) (fld a1)
  have ul := fld_lt b0.1 b0.2
  rw [← room_nine] at ul
  have hEA : (enc 9 (fld a0)).length = la := hla
  have hEB : (enc 9 (fld a1)).length = lb := hlb
  rw [hEA] at l1 lm
  rw [hEB] at l2 lm
  obtain ⟨u0, hu0⟩ : ∃ u, fld a0 = u := ⟨_, rfl⟩
  obtain ⟨v0, hv0⟩ : ∃ u, fld a1 = u := ⟨_, rfl⟩
  rw [hu0] at FA lm ul hEA
  rw [hv0] at FB lm
  have JA := Lib.hid FA
  have JB := Lib.hid FB
  have hlen : u0 > v0 ∨ la ≤ lb := by
    rcases Nat.lt_or_ge v0 u0 with h | h
    · exact .inl h
    · exact .inr (lm h)
  have HL := Lib.hid hlen
  have HU := Lib.hid ul
  have HE := Lib.hid hEA
  have HZ := Lib.hid (And.intro hla (And.intro hlb (And.intro hu0 hv0)))
  obtain ⟨a1', a2'⟩ := l1
  obtain ⟨b1', b2'⟩ := l2
  clear w0 w1 b0 b1 hla hlb hu0 hv0 lm ul hEA hEB hlen FA FB
  go_enter Try.func7, Try.ntmps7
  go_wp2_with fail
  go_at_call 9
  refine (PA.out _).mono ?_
  rintro e v1 ⟨ha, rfl, hb1⟩
  go_wp2_with fail
  go_at_call 9
  refine (PB.out _).mono ?_
  rintro e v2 ⟨hb, rfl, hb2⟩
  have HX : Hid (Bel w v2) := hb1.tr hb2
  clear hb1 hb2
  go_wp2_with (go_at_call 20; refine (JA.out _).mono ?_; rintro e w' ⟨rfl, rfl⟩)
  go_loop [7, 8] (fun s7 s8 => ∃ k u : Nat, k ≤ 9 ∧ s7 = .int .i64 ((k : Int) + 1) ∧ s8 = .int .u64 (u : Int) ∧ u < room (9 - k) ∧ (enc (9 - k) u).length + k = la) (fun _ s8 => (intOf s8).toNat)
  case atStart => exact ⟨0, u0, by omega, rfl, rfl, HU.out, HE.out⟩
  case round =>
    obtain ⟨k, u, hk, rfl, rfl, hu, he⟩ := hrel
    rcases Nat.lt_or_ge u 128 with h | h
    · rw [enc_small _ h] at he
      have hla2 : la = k + 1 := by simp at he; omega
      have ui : (u : Int) < 128 := by omega
      subst hla2
      have t1 : ((k : Int) + 1 == (k : Int) + 1) = true := by simp
      clear he hu
      rcases HL.out with hg | hg
      · have gi : (v0 : Int) < (u0 : Int) := by omega
        go_wp2_with (first | (go_at_call_of 20 (Value.int IntKind.i64 a0); refine (JA.out _).mono ?_; rintro e w' ⟨rfl, rfl⟩) | (go_at_call_of 20 (Value.int IntKind.i64 a1); refine (JB.out _).mono ?_; rintro e w' ⟨rfl, rfl⟩) | (go_at_call 8; refine (awake_any _).mono ?_; rintro e w9 ⟨rfl, hb9⟩))
        go_ret
        exact ⟨rfl, (HX.out.tr hb9).bl⟩
      · have gi : ((k + 1 : Nat) : Int) ≤ (lb : Int) := by omega
        have gj : (k : Int) + 1 ≤ (lb : Int) := by omega
        go_wp2_with (first | (go_at_call_of 20 (Value.int IntKind.i64 a0); refine (JA.out _).mono ?_; rintro e w' ⟨rfl, rfl⟩) | (go_at_call_of 20 (Value.int IntKind.i64 a1); refine (JB.out _).mono ?_; rintro e w' ⟨rfl, rfl⟩) | (go_at_call 8; refine (awake_any _).mono ?_; rintro e w9 ⟨rfl, hb9⟩))
        all_goals
          go_ret
          exact ⟨rfl, (HX.out.tr hb9).bl⟩
    · have hk9 : k < 9 := by
        rcases Nat.lt_or_ge k 9 with h' | h'
        · exact h'
        · have := (room_le (9 - k) (by omega)).2 (by omega); omega
      obtain ⟨f, hf⟩ : ∃ f, 9 - k = f + 1 := ⟨8 - k, by omega⟩
      have HE2 : Hid ((enc f (u / 128)).length + (k + 1) = la) := by
        show _ = _
        rw [hf, enc_great f h] at he
        simp at he; omega
      have HU2 : Hid (u / 128 < room f) := by show _ < _; rw [hf] at hu; simp [room] at hu; omega
      have uw : IntKind.u64.wrap ((u : Int) / 128) = (u : Int) / 128 := by
        have := (room_le (9 - k) (by omega)).1
        exact IntWalk.u64_in _ ⟨by omega, by omega⟩
      have HF := Lib.hid hf
      have ui : (128 : Int) ≤ (u : Int) := by omega
      have ki : (k : Int) < 9 := by omega
      clear he hu hf
      go_wp2
      go_round
      case rel =>
        refine ⟨k + 1, u / 128, by omega, by go_num, by go_num, ?_, ?_⟩
        · have := HF.out
          rw [show 9 - (k + 1) = f by omega]; exact HU2.out
        · have := HF.out
          rw [show 9 - (k + 1) = f by omega]; exact HE2.out
      case measure => simp [intOf]; omega

set_option maxRecDepth 100000 in
theorem lifted (os : Os) (started : os.Started) (H : Type) (enc : TypeId × Value → H) :
    ReturnsInHanded {} Try.checked os 7 .any (Rows.codecLengthsSpec.pre6 enc Try.prog Try.f7 Rows.codecLengthsRow.domain false) (Rows.codecLengthsSpec.post enc Try.prog Try.f7 false true false false) := by
  refine returnsInHanded_of_change (C := Try.checked) own started (by kernel_rfl) Try.func7
    (ChangeSpec.witness6 (enc := enc) (C := Try.checked) false ⟨#[], #[.int .i64 0, .int .i64 0], []⟩ 8 (by kernel_rfl) (by kernel_rfl) (by kernel_rfl) (by kernel_rfl)) ?_
  intro W base args ds gs before hval0 hW hcnd _
  have hval : ∀ (j : Nat) t v, Try.f7.params[j]? = some t → args[j]? = some v → Value.okWide Try.prog W .any base t v := hval0
  have hW' := hW
  obtain ⟨p, q, hA0, hV, rfl, hfz, hnd⟩ := hW
  have hA : DataW.TrodAll enc Try.prog W 0 (fun _ => true) true Try.f7.params.toList args.toList ds p := hA0
  rw [Try.params7] at hA hval
  obtain ⟨v0, vs0, d0, ds0, p0, q0, hargs, rfl, rfl, h0, r0⟩ := trodAll_cons hA
  obtain ⟨v1, vs1, d1, ds1, p1, q1, rfl, rfl, rfl, h1, r1⟩ := trodAll_cons r0
  obtain ⟨rfl, rfl, rfl⟩ := trodAll_nil r1
  obtain rfl : args = #[v0, v1] := by cases args; simp_all
  obtain ⟨rfl, rfl⟩ := trodVars_none hV
  obtain ⟨a0, rfl, rfl, rfl, w0⟩ := open_int Try.underlying3 (hval 0 3 v0 rfl rfl) h0
  obtain ⟨a1, rfl, rfl, rfl, w1⟩ := open_int Try.underlying3 (hval 1 3 v1 rfl rfl) h1
  clear hA0 hval0
  simp only [List.append_nil] at hW'
  refine (walk a0 a1 w0 w1 W).mono fun e W' ⟨he, hg⟩ => ?_
  subst he
  exact ⟨_, rfl, post_below hW' (fun _ _ _ => (trodAll_cons_mk (shut_bool Try.underlying4 _) trodAll_mk0)) (fun sp _ => (trodAll_cons_mk (shut_int Try.underlying3 w0) (trodAll_cons_mk (shut_int Try.underlying3 w1) trodAll_mk0))) (fun _ _ => rfl) rfl hg (ok_one (by kernel_rfl) rfl (okWide_bool_mk Try.underlying4 _))⟩

theorem over : Rows.codecLengthsRow.holds Try.pinned (OpenSpec.ofChange Rows.codecLengthsSpec) :=
  OpenClaim.holds_of_wide 7 Try.f7 rfl rfl rfl rfl rfl rfl rfl ⟨rfl, rfl, rfl, rfl, rfl⟩ rfl rfl rfl rfl rfl (by kernel_rfl) Try.func7 (by kernel_rfl)
    (of_decide_eq_true (by kernel_rfl)) (by unfold Func.isWrapper; first | (rw [if_pos (by decide +kernel)]; kernel_rfl) | (rw [if_neg (by decide +kernel)]; exact ⟨rfl, rfl⟩))
    (fun os started H enc _ => lifted os started H enc)

theorem proved : Rows.CodecLengthsSaid :=
  over
end Go.Proofs.Ytoacbboidigphaa.codecLengths
