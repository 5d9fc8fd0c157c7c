/- That the law UnitWholes returns true for every input that can be read, and leaves its arguments as they were; the package variables that it lists start as the program lays them, which the card ties to the text; no further condition. -/
import Derived.Test.YtoacbboidigphaaDoorRows
import Derived.WalkKit
import Derived.ProofKit
import Derived.OpenShut
import Derived.LaidMore
import Derived.Stop.Joined
import Derived.SevenTiedAt
import Derived.Test.YtoacbboidigphaaDoorCards
import Derived.Test.YtoacbboidigphaaDoorTie
import Derived.Test.YtoacbboidigphaaDoorWords
import Derived.Test.YtoacbboidigphaaDoorUnitAwake
import Derived.ShutString
namespace Go.Proofs.YtoacbboidigphaaDoor.unitWholes
open Go.ChangeShapes Go.WideShapes Go.ChangeAt Go.RowKit Wo
open Go.ChangeMaps (open_string shut_string)
set_option linter.unusedVariables false      -- a walk need not use every 'w<i>' (that an integer argument fits its kind)

theorem own : ownKnob Tryd.prog.godebug = none := by kernel_rfl

open Go.Proofs.YtoacbboidigphaaDoor.Un in
set_option maxHeartbeats 4000000 in
set_option maxRecDepth 100000 in
theorem walk (a0 : Int) (a1 : Int) (w0 : (Lit.int .i16 a0).wf = true) (w1 : (Lit.int .i16 a1).wf = true) (w : World) (hL : Un.Pows w) :
    Calls Tryd.prog 6 #[.int .i16 a0, .int .i16 a1] w fun e w' => e = .returned (.bool true) ∧ Below w.heap.size w w' := by
  have b0 := bounds_i16 w0
  have b1 := bounds_i16 w1
  obtain ⟨i1, i2⟩ := b0
  obtain ⟨i3, i4⟩ := b1
  have HP := Lib.hid hL
  have HW := Lib.hid (And.intro w0 w1)
  clear hL w0 w1
  have hn := fl_parts a0 1001 (by decide)
  obtain ⟨-, -, n1, n2⟩ := hn
  obtain ⟨k, hk⟩ : ∃ n, a0.tmod 1001 = n := ⟨_, rfl⟩
  rw [hk] at n1 n2
  have hm := fl_parts a1 500 (by decide)
  obtain ⟨-, -, m1, m2⟩ := hm
  obtain ⟨m, hm⟩ : ∃ n, a1.tmod 500 = n := ⟨_, rfl⟩
  rw [hm] at m1 m2
  have C1 : Hid (∀ W, Pows W → Calls Tryd.prog 11 #[.agg #[.int .i64 k, .int .i64 0], .agg #[.string ⟨#[114, 97, 119]⟩, .int .i64 1, .int .i64 0, .int .i64 1]] W fun e w' => e = .returned (.tuple #[.int .i64 k, .int .i64 0]) ∧ Bel W w') := fun W hW =>
    conv_as k 0 _ 1 0 1 _ (by omega) (by omega) (by decide) low_raw (by decide) (by decide) (by decide) (by decide) (by decide) (by decide)
      (cvt_of (q := k) (by decide) (by omega) (by omega) (by omega) (by omega)) W hW
  have C2 : Hid (∀ W, Pows W → Calls Tryd.prog 11 #[.agg #[.int .i64 (10 * k + 5), .int .i64 1], .agg #[.string ⟨#[114, 97, 119]⟩, .int .i64 1, .int .i64 0, .int .i64 1]] W fun e w' => e = .returned (if smp (k + 1) = true then .tuple #[.int .i64 (k + 1), .int .i64 0] else .tuple #[.int .i64 0, .int .i64 12]) ∧ Bel W w') := fun W hW =>
    conv_as (10 * k + 5) 1 _ 1 0 1 _ (by omega) (by omega) (by decide) low_raw (by decide) (by decide) (by decide) (by decide) (by decide) (by decide)
      (cvt_if (q := k + 1) (by decide) (by omega) (by omega)) W hW
  have C3 : Hid (∀ W, Pows W → Calls Tryd.prog 11 #[.agg #[.int .i64 k, .int .i64 0], .agg #[.string ⟨#[97]⟩, .int .i64 1, .int .i64 m, .int .i64 1]] W fun e w' => e = .returned (if smp (k + m) = true then .tuple #[.int .i64 (k + m), .int .i64 0] else .tuple #[.int .i64 0, .int .i64 12]) ∧ Bel W w') := fun W hW =>
    conv_as k 0 _ 1 m 1 _ (by omega) (by omega) (by decide) (low_lit (by decide) (by decide) (by decide)) (by decide) (by decide) (by omega) (by omega) (by decide) (by decide)
      (cvt_if (q := k + m) (by decide) (by omega) (by omega)) W hW
  have g2 : (k < 1000 ∧ smp (k + 1) = true) ∨ (k = 1000 ∧ ¬ smp (k + 1) = true) := by
    rcases Int.lt_or_le k 1000 with h | h
    · exact .inl ⟨h, decide_eq_true ⟨by omega, by omega⟩⟩
    · exact .inr ⟨by omega, fun x => by have := of_decide_eq_true x; omega⟩
  have g3 : (-1000 ≤ k + m ∧ k + m ≤ 1000 ∧ smp (k + m) = true) ∨ (1000 < k + m ∧ ¬ smp (k + m) = true) ∨ (k + m < -1000 ∧ ¬ smp (k + m) = true) := by
    rcases Int.lt_or_le 1000 (k + m) with h | h
    · exact .inr (.inl ⟨h, fun x => by have := of_decide_eq_true x; omega⟩)
    · rcases Int.lt_or_le (k + m) (-1000) with h' | h'
      · exact .inr (.inr ⟨h', fun x => by have := of_decide_eq_true x; omega⟩)
      · exact .inl ⟨h', h, decide_eq_true ⟨h', h⟩⟩
  rcases g2 with ⟨h1, h2⟩ | ⟨h1, h2⟩
  · have K2 := C2.out
    rw [if_pos h2] at K2
    have K2 := Lib.hid K2
    clear C2 h2
    rcases g3 with ⟨g0, g1, g2⟩ | ⟨g1, g2⟩ | ⟨g1, g2⟩
    · have K3 := C3.out
      rw [if_pos g2] at K3
      have K3 := Lib.hid K3
      clear C3 g2
      go_enter Tryd.func6, Tryd.ntmps6
      go_wp2_with fail
      go_at_call 12
      refine (raw_any _).mono ?_
      rintro e v1 ⟨rfl, hb1⟩
      have HX1 : Hid (Bel w v1) := (by repeat (first | exact Bel.rf | (with_reducible refine Bel.drwN ?_ _) | (with_reducible refine Bel.drw ?_) | (with_reducible refine Bel.al ?_ _) | ((with_reducible refine Bel.st2 ?_ ?_ _); (show _ ≤ _); (simp only []; omega)) | refine Bel.tr ?_ (by assumption)))
      have HP1 := Lib.hid (HP.out.bel HX1.out)
      clear hb1
      go_wp2_with fail
      go_at_call 11
      refine (C1.out _ HP1.out).mono ?_
      rintro e v2 ⟨rfl, hb2⟩
      have HX2 := Lib.hid (HX1.out.tr hb2)
      clear hb2
      go_wp2_with fail
      go_at_call 12
      refine (raw_any _).mono ?_
      rintro e v3 ⟨rfl, hb3⟩
      have HX3 := Lib.hid (HX2.out.tr hb3)
      have HP3 := Lib.hid (HP.out.bel HX3.out)
      clear hb3
      go_wp2_with fail
      go_at_call 11
      refine (K2.out _ HP3.out).mono ?_
      rintro e v4 ⟨rfl, hb4⟩
      have HX4 := Lib.hid (HX3.out.tr hb4)
      have HP4 := Lib.hid (HP.out.bel HX4.out)
      clear hb4
      go_wp2_with fail
      go_at_call 11
      refine (K3.out _ HP4.out).mono ?_
      rintro e v5 ⟨rfl, hb5⟩
      have HX5 := Lib.hid (HX4.out.tr hb5)
      have HP5 := Lib.hid (HP.out.bel HX5.out)
      clear hb5
      go_wp2_with (go_at_call 7; refine (awake_any _ HP5.out).mono ?_; rintro e w9 ⟨rfl, hb9⟩)
      go_ret
      exact ⟨rfl, (HX5.out.tr hb9).bl⟩
    · have K3 := C3.out
      rw [if_neg g2] at K3
      have K3 := Lib.hid K3
      clear C3 g2
      go_enter Tryd.func6, Tryd.ntmps6
      go_wp2_with fail
      go_at_call 12
      refine (raw_any _).mono ?_
      rintro e v1 ⟨rfl, hb1⟩
      have HX1 : Hid (Bel w v1) := (by repeat (first | exact Bel.rf | (with_reducible refine Bel.drwN ?_ _) | (with_reducible refine Bel.drw ?_) | (with_reducible refine Bel.al ?_ _) | ((with_reducible refine Bel.st2 ?_ ?_ _); (show _ ≤ _); (simp only []; omega)) | refine Bel.tr ?_ (by assumption)))
      have HP1 := Lib.hid (HP.out.bel HX1.out)
      clear hb1
      go_wp2_with fail
      go_at_call 11
      refine (C1.out _ HP1.out).mono ?_
      rintro e v2 ⟨rfl, hb2⟩
      have HX2 := Lib.hid (HX1.out.tr hb2)
      clear hb2
      go_wp2_with fail
      go_at_call 12
      refine (raw_any _).mono ?_
      rintro e v3 ⟨rfl, hb3⟩
      have HX3 := Lib.hid (HX2.out.tr hb3)
      have HP3 := Lib.hid (HP.out.bel HX3.out)
      clear hb3
      go_wp2_with fail
      go_at_call 11
      refine (K2.out _ HP3.out).mono ?_
      rintro e v4 ⟨rfl, hb4⟩
      have HX4 := Lib.hid (HX3.out.tr hb4)
      have HP4 := Lib.hid (HP.out.bel HX4.out)
      clear hb4
      go_wp2_with fail
      go_at_call 11
      refine (K3.out _ HP4.out).mono ?_
      rintro e v5 ⟨rfl, hb5⟩
      have HX5 := Lib.hid (HX4.out.tr hb5)
      have HP5 := Lib.hid (HP.out.bel HX5.out)
      clear hb5
      go_wp2_with (go_at_call 7; refine (awake_any _ HP5.out).mono ?_; rintro e w9 ⟨rfl, hb9⟩)
      go_ret
      exact ⟨rfl, (HX5.out.tr hb9).bl⟩
    · have K3 := C3.out
      rw [if_neg g2] at K3
      have K3 := Lib.hid K3
      clear C3 g2
      go_enter Tryd.func6, Tryd.ntmps6
      go_wp2_with fail
      go_at_call 12
      refine (raw_any _).mono ?_
      rintro e v1 ⟨rfl, hb1⟩
      have HX1 : Hid (Bel w v1) := (by repeat (first | exact Bel.rf | (with_reducible refine Bel.drwN ?_ _) | (with_reducible refine Bel.drw ?_) | (with_reducible refine Bel.al ?_ _) | ((with_reducible refine Bel.st2 ?_ ?_ _); (show _ ≤ _); (simp only []; omega)) | refine Bel.tr ?_ (by assumption)))
      have HP1 := Lib.hid (HP.out.bel HX1.out)
      clear hb1
      go_wp2_with fail
      go_at_call 11
      refine (C1.out _ HP1.out).mono ?_
      rintro e v2 ⟨rfl, hb2⟩
      have HX2 := Lib.hid (HX1.out.tr hb2)
      clear hb2
      go_wp2_with fail
      go_at_call 12
      refine (raw_any _).mono ?_
      rintro e v3 ⟨rfl, hb3⟩
      have HX3 := Lib.hid (HX2.out.tr hb3)
      have HP3 := Lib.hid (HP.out.bel HX3.out)
      clear hb3
      go_wp2_with fail
      go_at_call 11
      refine (K2.out _ HP3.out).mono ?_
      rintro e v4 ⟨rfl, hb4⟩
      have HX4 := Lib.hid (HX3.out.tr hb4)
      have HP4 := Lib.hid (HP.out.bel HX4.out)
      clear hb4
      go_wp2_with fail
      go_at_call 11
      refine (K3.out _ HP4.out).mono ?_
      rintro e v5 ⟨rfl, hb5⟩
      have HX5 := Lib.hid (HX4.out.tr hb5)
      have HP5 := Lib.hid (HP.out.bel HX5.out)
      clear hb5
      go_wp2_with (go_at_call 7; refine (awake_any _ HP5.out).mono ?_; rintro e w9 ⟨rfl, hb9⟩)
      go_ret
      exact ⟨rfl, (HX5.out.tr hb9).bl⟩
  · have K2 := C2.out
    rw [if_neg h2] at K2
    have K2 := Lib.hid K2
    have h1' : ¬ k < 1000 := by omega
    have H1 := Lib.hid h1
    clear C2 h2 h1
    rcases g3 with ⟨g0, g1, g2⟩ | ⟨g1, g2⟩ | ⟨g1, g2⟩
    · have K3 := C3.out
      rw [if_pos g2] at K3
      have K3 := Lib.hid K3
      clear C3 g2
      go_enter Tryd.func6, Tryd.ntmps6
      go_wp2_with fail
      go_at_call 12
      refine (raw_any _).mono ?_
      rintro e v1 ⟨rfl, hb1⟩
      have HX1 : Hid (Bel w v1) := (by repeat (first | exact Bel.rf | (with_reducible refine Bel.drwN ?_ _) | (with_reducible refine Bel.drw ?_) | (with_reducible refine Bel.al ?_ _) | ((with_reducible refine Bel.st2 ?_ ?_ _); (show _ ≤ _); (simp only []; omega)) | refine Bel.tr ?_ (by assumption)))
      have HP1 := Lib.hid (HP.out.bel HX1.out)
      clear hb1
      go_wp2_with fail
      go_at_call 11
      refine (C1.out _ HP1.out).mono ?_
      rintro e v2 ⟨rfl, hb2⟩
      have HX2 := Lib.hid (HX1.out.tr hb2)
      clear hb2
      go_wp2_with fail
      go_at_call 12
      refine (raw_any _).mono ?_
      rintro e v3 ⟨rfl, hb3⟩
      have HX3 := Lib.hid (HX2.out.tr hb3)
      have HP3 := Lib.hid (HP.out.bel HX3.out)
      clear hb3
      go_wp2_with fail
      go_at_call 11
      refine (K2.out _ HP3.out).mono ?_
      rintro e v4 ⟨rfl, hb4⟩
      have HX4 := Lib.hid (HX3.out.tr hb4)
      have HP4 := Lib.hid (HP.out.bel HX4.out)
      clear hb4
      go_wp2_with fail
      go_at_call 11
      refine (K3.out _ HP4.out).mono ?_
      rintro e v5 ⟨rfl, hb5⟩
      have HX5 := Lib.hid (HX4.out.tr hb5)
      have HP5 := Lib.hid (HP.out.bel HX5.out)
      clear hb5
      go_wp2_with (go_at_call 7; refine (awake_any _ HP5.out).mono ?_; rintro e w9 ⟨rfl, hb9⟩)
      go_ret
      exact ⟨rfl, (HX5.out.tr hb9).bl⟩
    · have K3 := C3.out
      rw [if_neg g2] at K3
      have K3 := Lib.hid K3
      clear C3 g2
      go_enter Tryd.func6, Tryd.ntmps6
      go_wp2_with fail
      go_at_call 12
      refine (raw_any _).mono ?_
      rintro e v1 ⟨rfl, hb1⟩
      have HX1 : Hid (Bel w v1) := (by repeat (first | exact Bel.rf | (with_reducible refine Bel.drwN ?_ _) | (with_reducible refine Bel.drw ?_) | (with_reducible refine Bel.al ?_ _) | ((with_reducible refine Bel.st2 ?_ ?_ _); (show _ ≤ _); (simp only []; omega)) | refine Bel.tr ?_ (by assumption)))
      have HP1 := Lib.hid (HP.out.bel HX1.out)
      clear hb1
      go_wp2_with fail
      go_at_call 11
      refine (C1.out _ HP1.out).mono ?_
      rintro e v2 ⟨rfl, hb2⟩
      have HX2 := Lib.hid (HX1.out.tr hb2)
      clear hb2
      go_wp2_with fail
      go_at_call 12
      refine (raw_any _).mono ?_
      rintro e v3 ⟨rfl, hb3⟩
      have HX3 := Lib.hid (HX2.out.tr hb3)
      have HP3 := Lib.hid (HP.out.bel HX3.out)
      clear hb3
      go_wp2_with fail
      go_at_call 11
      refine (K2.out _ HP3.out).mono ?_
      rintro e v4 ⟨rfl, hb4⟩
      have HX4 := Lib.hid (HX3.out.tr hb4)
      have HP4 := Lib.hid (HP.out.bel HX4.out)
      clear hb4
      go_wp2_with fail
      go_at_call 11
      refine (K3.out _ HP4.out).mono ?_
      rintro e v5 ⟨rfl, hb5⟩
      have HX5 := Lib.hid (HX4.out.tr hb5)
      have HP5 := Lib.hid (HP.out.bel HX5.out)
      clear hb5
      go_wp2_with (go_at_call 7; refine (awake_any _ HP5.out).mono ?_; rintro e w9 ⟨rfl, hb9⟩)
      go_ret
      exact ⟨rfl, (HX5.out.tr hb9).bl⟩
    · exfalso
      omega

theorem door_met (os : Os) (args : Array Value) : laidMetH Tryd.prog [("shapesearch/unit.powers", Rows.laid_shapesearch_unit_powers)] ((World.doorLaid Tryd.prog 400 os).forCall (fun _ _ => 0) ⟨#[], args, []⟩).memory :=
  laidMetH_of_parts3 (fuel := 8) (laidMet_of_run' 8 (by kernel_rfl) (by kernel_rfl)) (by kernel_rfl) (by kernel_rfl)
set_option maxRecDepth 100000 in
theorem lifted (os : Os) (started : os.Started) (H : Type) (enc : TypeId × Value → H) :
    ReturnsInHanded {} Tryd.checked os 6 .any (fun w args => (Rows.unitWholesSpec.pre enc Tryd.prog Tryd.f6 [] false w args ∧ laidMetH Tryd.prog [("shapesearch/unit.powers", Rows.laid_shapesearch_unit_powers)] w) ∧ sizedMet enc Tryd.prog Tryd.f6 (OpenSpec.ofChange Rows.unitWholesSpec) false w args)
      (Rows.unitWholesSpec.post enc Tryd.prog Tryd.f6 false true false false) := by
  refine returnsInHanded_of_change_and (C := Tryd.checked) (X := fun w _ => laidMetH Tryd.prog [("shapesearch/unit.powers", Rows.laid_shapesearch_unit_powers)] w) (fun _ _ _ hh h => h.of_heap hh) own started (by kernel_rfl) Tryd.func6
    (ChangeSpec.witness_shaped (enc := enc) (C := Tryd.checked) (os := os) (X := fun w _ => laidMetH Tryd.prog [("shapesearch/unit.powers", Rows.laid_shapesearch_unit_powers)] w) false (World.doorLaid Tryd.prog 400 os) #[.int .i16 0, .int .i16 0] 8 rfl (World.shaped_of_RefB (by kernel_rfl) (by kernel_rfl)) (by kernel_rfl) (by kernel_rfl) (by kernel_rfl) (door_met os _)) ?_
  intro W base args ds gs before hval0 hW _ _ hL hsz
  have hval : ∀ (j : Nat) t v, Tryd.f6.params[j]? = some t → args[j]? = some v → Value.okWide Tryd.prog W .any base t v := hval0
  have hW' := hW
  obtain ⟨p, q, hA0, hV, rfl, hfz, hnd⟩ := hW
  have hA : DataW.TrodAll enc Tryd.prog W 0 (fun _ => true) true Tryd.f6.params.toList args.toList ds p := hA0
  rw [Tryd.params6] at hA hval
  obtain ⟨v0, vs0, d0, ds0, p0, q0, hargs, rfl, rfl, h0, r0⟩ := trodAll_cons hA
  obtain ⟨v1, vs1, d1, ds1, p1, q1, rfl, rfl, rfl, h1, r1⟩ := trodAll_cons r0
  obtain ⟨rfl, rfl, rfl⟩ := trodAll_nil r1
  obtain rfl : args = #[v0, v1] := by cases args; simp_all
  obtain ⟨rfl, rfl⟩ := trodVars_none hV
  obtain ⟨a0, rfl, rfl, rfl, w0⟩ := open_int Tryd.underlying35 (hval 0 35 v0 rfl rfl) h0
  obtain ⟨a1, rfl, rfl, rfl, w1⟩ := open_int Tryd.underlying35 (hval 1 35 v1 rfl rfl) h1
  clear hA0 hval0
  simp only [List.append_nil] at hW'
  refine (walk a0 a1 w0 w1 W (Un.pows_of hL)).mono fun e W' ⟨he, hg⟩ => ?_
  subst he
  exact ⟨_, rfl, post_below hW' (fun _ _ _ => (trodAll_cons_mk (shut_bool Tryd.underlying4 _) trodAll_mk0)) (fun sp _ => (trodAll_cons_mk (shut_int Tryd.underlying35 w0) (trodAll_cons_mk (shut_int Tryd.underlying35 w1) trodAll_mk0))) (fun _ _ => rfl) rfl hg (ok_one (by kernel_rfl) rfl (okWide_bool_mk Tryd.underlying4 _))⟩

theorem over : Rows.unitWholesRow.holds Tryd.pinned (OpenSpec.ofChange Rows.unitWholesSpec) :=
  OpenClaim.holds_of_wide 6 Tryd.f6 rfl rfl rfl rfl rfl rfl rfl ⟨rfl, rfl, rfl, rfl, rfl⟩ rfl rfl rfl rfl rfl (by kernel_rfl) Tryd.func6 (by kernel_rfl)
    (of_decide_eq_true (by kernel_rfl)) (by unfold Func.isWrapper; first | (rw [if_pos (by decide +kernel)]; kernel_rfl) | (rw [if_neg (by decide +kernel)]; exact ⟨rfl, rfl⟩))
    (fun os started H enc _ => lifted os started H enc)

theorem proved : Rows.UnitWholesCardSaid :=
  Claim7.holds_tied_plain_at .later [] [.data] true (true, "3d7a6eadce1b0bc04abeec8a482016c86e46d851c34edec460e81e1d5ba11ffb") false
    over (fun _ h => by cases h) (by kernel_rfl) (fun _ h => by cases h) unitWholes_row_tie rfl ⟨rfl, rfl⟩ (by kernel_rfl) rfl
    (fun f fn hf hfn => by
      obtain rfl : f = 6 := Option.some.inj ((show Tryd.prog.funcNamed "shapesearch/shapesearchlaw04.UnitWholes" = some 6 by kernel_rfl).symm.trans hf) |>.symm
      obtain rfl : fn = Tryd.f6 := (Option.some.inj (Tryd.func6.symm.trans hfn)).symm
      exact ⟨by kernel_rfl, fun j t ht => by
        rw [Tryd.params6] at ht
        have hm : t ∈ [35] := by simpa using Array.mem_of_getElem? ht
        have hall : ([35].all fun u => !Tryd.prog.wantsStandIn u) = true := by kernel_rfl
        exact (show Tryd.prog.wantsStandIn t = false by simpa using List.all_eq_true.1 hall t hm)⟩)
    (by kernel_rfl)
end Go.Proofs.YtoacbboidigphaaDoor.unitWholes
