/- That the law RatioMakes returns true for every input that can be read, and leaves its arguments as they were; the package variables that it lists start as the program lays them, which the card ties to the text; no further condition. -/
import Derived.Test.YtmpkjlifcdobiaaDoorRows
import Derived.WalkKit
import Derived.ProofKit
import Derived.OpenShut
import Derived.LaidMore
import Derived.Stop.Joined
import Derived.SevenTiedAt
import Derived.Test.YtmpkjlifcdobiaaDoorCards
import Derived.Test.YtmpkjlifcdobiaaDoorTie
import Derived.Test.YtmpkjlifcdobiaaDoorWords
import Derived.Test.YtmpkjlifcdobiaaDoorRatioMath
import Derived.Test.YtmpkjlifcdobiaaDoorRatioAwake
namespace Go.Proofs.YtmpkjlifcdobiaaDoor.ratioMakes
open Go.ChangeShapes Go.WideShapes Go.ChangeAt Go.RowKit Wo
set_option linter.unusedVariables false      -- a walk need not use every 'w<i>' (that an integer argument fits its kind)

theorem own : ownKnob Tryd.prog.godebug = none := by kernel_rfl

open Go.Proofs.YtmpkjlifcdobiaaDoor.Ra Go.Proofs.YtmpkjlifcdobiaaDoor.Wo in
set_option maxHeartbeats 2000000 in
theorem walk (a0 : Int) (a1 : Int) (a2 : Int) (w0 : (Lit.int .u16 a0).wf = true) (w1 : (Lit.int .u16 a1).wf = true) (w2 : (Lit.int .u16 a2).wf = true) (w : World) :
    Calls Tryd.prog 9 #[.int .u16 a0, .int .u16 a1, .int .u16 a2] w fun e w' => e = .returned (.bool true) ∧ Below w.heap.size w w' := by
  have hb0 := bounds_u16 w0
  have hb1 := bounds_u16 w1
  have hb2 := bounds_u16 w2
  have hc0 := hb0.1
  have hc1 := hb0.2
  have hc2 := hb1.1
  have hc3 := hb1.2
  have hc4 := hb2.1
  have hc5 := hb2.2
  clear hb0 hb1 hb2
  have f := make_facts (n := a0) (d := 1 + a1) hc0 (by omega) (by omega) (by omega)
  have gm := gd_mul (a := a0) (b := 1 + a1) (f := 1 + a2) hc0 (by omega) (by omega)
  have q1 := quot_scale (a := a0) (g := gd a0 (1 + a1)) (f := 1 + a2) (by omega)
  have q2 := quot_scale (a := 1 + a1) (g := gd a0 (1 + a1)) (f := 1 + a2) (by omega)
  rw [← gm] at q1 q2
  have m0 : 0 ≤ a0 * (1 + a2) := Int.mul_nonneg hc0 (by omega)
  have m1 : a0 * (1 + a2) ≤ 65535 * 65536 := Int.mul_le_mul hc1 (by omega) (by omega) (by omega)
  have m2 : 1 * 1 ≤ (1 + a1) * (1 + a2) := Int.mul_le_mul (by omega) (by omega) (by omega) (by omega)
  have m3 : (1 + a1) * (1 + a2) ≤ 65536 * 65536 := Int.mul_le_mul (by omega) (by omega) (by omega) (by omega)
  have J1 : ∀ W, Calls Tryd.prog 29 #[.int .i64 a0, .int .i64 (1 + a1)] W fun e w' => e = .returned (.tuple #[.agg #[.int .i64 (a0 / gd a0 (1 + a1)), .int .i64 ((1 + a1) / gd a0 (1 + a1))], .int .i64 0]) ∧ Bel W w' :=
    fun W => make_in a0 (1 + a1) W hc0 (by omega) (rin_yes f.2.2.2.2.2.2.1.1) (by omega) (by omega)
  have J2 : ∀ W, Calls Tryd.prog 29 #[.int .i64 (a0 * (1 + a2)), .int .i64 ((1 + a1) * (1 + a2))] W fun e w' => e = .returned (.tuple #[.agg #[.int .i64 (a0 / gd a0 (1 + a1)), .int .i64 ((1 + a1) / gd a0 (1 + a1))], .int .i64 0]) ∧ Bel W w' := fun W => by
    have := make_in (a0 * (1 + a2)) ((1 + a1) * (1 + a2)) W m0 (by omega) (by rw [q1, q2]; exact rin_yes f.2.2.2.2.2.2.1.1) (by omega) (by omega)
    rw [q1, q2] at this
    exact this
  obtain ⟨f1, f2, f3, f4, f5, f6, f7, f8⟩ := f
  clear q1 q2 gm f5 f6
  generalize a0 / gd a0 (1 + a1) = x at *
  generalize (1 + a1) / gd a0 (1 + a1) = y at *
  have x0 : 0 ≤ x * (1 + a1) := Int.mul_nonneg f1 (by omega)
  have x1 : x * (1 + a1) ≤ 65535 * 65536 := Int.mul_le_mul (by omega) (by omega) (by omega) (by omega)
  have y0 : 0 ≤ a0 * y := Int.mul_nonneg hc0 (by omega)
  have y1 : a0 * y ≤ 65535 * 65536 := Int.mul_le_mul (by omega) (by omega) (by omega) (by omega)
  have hr := rv_yes f7
  have he : (x * (1 + a1) == a0 * y) = true := by simpa using f8
  have K1 := Lib.hid J1
  have K2 := Lib.hid J2
  clear J1 J2 f7 f8
  go_enter Tryd.func9, Tryd.ntmps9
  go_wp2_with fail
  go_at_call 29
  refine (K1.out _).mono ?_
  rintro e v1 ⟨rfl, hb1⟩
  go_wp2_with fail
  go_at_call 29
  refine (K2.out _).mono ?_
  rintro e v2 ⟨rfl, hb2⟩
  have B1 : Bk v2 v1.heap.size 23 #[.int .i64 x, .int .i64 y] := (Bk.nw _ _ _).bel hb2
  have k0 : v2.cell? ⟨v1.heap.size, 0, none⟩ = some (.int .i64 x) := B1.cell 0
  have k1 : v2.cell? ⟨v1.heap.size, 1, none⟩ = some (.int .i64 y) := B1.cell 1
  have hl := B1.lt
  go_wp2_with (first | (go_at_call 15; refine (valid_any _ _ _).mono ?_; rintro e w8 ⟨rfl, hb8⟩) | (go_at_call 11; refine (awake_any _).mono ?_; rintro e w9 ⟨rfl, hb9⟩))
  go_ret
  exact ⟨rfl, ((by repeat (first | exact Bel.rf | (with_reducible refine Bel.drwN ?_ _) | (with_reducible refine Bel.drw ?_) | (with_reducible refine Bel.al ?_ _) | ((with_reducible refine Bel.st2 ?_ ?_ _); (show _ ≤ _); (simp only []; omega)) | refine Bel.tr ?_ (by assumption))) : Bel w _)⟩

theorem door_met (os : Os) (args : Array Value) : laidMetH Tryd.prog [("math/bits.deBruijn32tab", Rows.laid_math_bits_deBruijn32tab), ("math/bits.deBruijn64tab", Rows.laid_math_bits_deBruijn64tab), ("internal/strconv.uint64pow10", Rows.laid_internal_strconv_uint64pow10)] ((World.doorLaid Tryd.prog 400 os).forCall (fun _ _ => 0) ⟨#[], args, []⟩).memory :=
  laidMetH_of_parts3 (fuel := 8) (laidMet_of_run' 8 (by kernel_rfl) (by kernel_rfl)) (by kernel_rfl) (by kernel_rfl)
set_option maxRecDepth 100000 in
theorem lifted (os : Os) (started : os.Started) (H : Type) (enc : TypeId × Value → H) :
    ReturnsInHanded {} Tryd.checked os 9 .any (fun w args => (Rows.ratioMakesSpec.pre enc Tryd.prog Tryd.f9 [] false w args ∧ laidMetH Tryd.prog [("math/bits.deBruijn32tab", Rows.laid_math_bits_deBruijn32tab), ("math/bits.deBruijn64tab", Rows.laid_math_bits_deBruijn64tab), ("internal/strconv.uint64pow10", Rows.laid_internal_strconv_uint64pow10)] w) ∧ sizedMet enc Tryd.prog Tryd.f9 (OpenSpec.ofChange Rows.ratioMakesSpec) false w args)
      (Rows.ratioMakesSpec.post enc Tryd.prog Tryd.f9 false true false false) := by
  refine returnsInHanded_of_change_and (C := Tryd.checked) (X := fun w _ => laidMetH Tryd.prog [("math/bits.deBruijn32tab", Rows.laid_math_bits_deBruijn32tab), ("math/bits.deBruijn64tab", Rows.laid_math_bits_deBruijn64tab), ("internal/strconv.uint64pow10", Rows.laid_internal_strconv_uint64pow10)] w) (fun _ _ _ hh h => h.of_heap hh) own started (by kernel_rfl) Tryd.func9
    (ChangeSpec.witness_shaped (enc := enc) (C := Tryd.checked) (os := os) (X := fun w _ => laidMetH Tryd.prog [("math/bits.deBruijn32tab", Rows.laid_math_bits_deBruijn32tab), ("math/bits.deBruijn64tab", Rows.laid_math_bits_deBruijn64tab), ("internal/strconv.uint64pow10", Rows.laid_internal_strconv_uint64pow10)] w) false (World.doorLaid Tryd.prog 400 os) #[.int .u16 0, .int .u16 0, .int .u16 0] 8 rfl (World.shaped_of_RefB (by kernel_rfl) (by kernel_rfl)) (by kernel_rfl) (by kernel_rfl) (by kernel_rfl) (door_met os _)) ?_
  intro W base args ds gs before hval0 hW _ _ hL hsz
  have hval : ∀ (j : Nat) t v, Tryd.f9.params[j]? = some t → args[j]? = some v → Value.okWide Tryd.prog W .any base t v := hval0
  have hW' := hW
  obtain ⟨p, q, hA0, hV, rfl, hfz, hnd⟩ := hW
  have hA : DataW.TrodAll enc Tryd.prog W 0 (fun _ => true) true Tryd.f9.params.toList args.toList ds p := hA0
  rw [Tryd.params9] at hA hval
  obtain ⟨v0, vs0, d0, ds0, p0, q0, hargs, rfl, rfl, h0, r0⟩ := trodAll_cons hA
  obtain ⟨v1, vs1, d1, ds1, p1, q1, rfl, rfl, rfl, h1, r1⟩ := trodAll_cons r0
  obtain ⟨v2, vs2, d2, ds2, p2, q2, rfl, rfl, rfl, h2, r2⟩ := trodAll_cons r1
  obtain ⟨rfl, rfl, rfl⟩ := trodAll_nil r2
  obtain rfl : args = #[v0, v1, v2] := by cases args; simp_all
  obtain ⟨rfl, rfl⟩ := trodVars_none hV
  obtain ⟨a0, rfl, rfl, rfl, w0⟩ := open_int Tryd.underlying50 (hval 0 50 v0 rfl rfl) h0
  obtain ⟨a1, rfl, rfl, rfl, w1⟩ := open_int Tryd.underlying50 (hval 1 50 v1 rfl rfl) h1
  obtain ⟨a2, rfl, rfl, rfl, w2⟩ := open_int Tryd.underlying50 (hval 2 50 v2 rfl rfl) h2
  clear hA0 hval0
  simp only [List.append_nil] at hW'
  refine (walk a0 a1 a2 w0 w1 w2 W).mono fun e W' ⟨he, hg⟩ => ?_
  subst he
  exact ⟨_, rfl, post_below hW' (fun _ _ _ => (trodAll_cons_mk (shut_bool Tryd.underlying4 _) trodAll_mk0)) (fun sp _ => (trodAll_cons_mk (shut_int Tryd.underlying50 w0) (trodAll_cons_mk (shut_int Tryd.underlying50 w1) (trodAll_cons_mk (shut_int Tryd.underlying50 w2) trodAll_mk0)))) (fun _ _ => rfl) rfl hg (ok_one (by kernel_rfl) rfl (okWide_bool_mk Tryd.underlying4 _))⟩

theorem over : Rows.ratioMakesRow.holds Tryd.pinned (OpenSpec.ofChange Rows.ratioMakesSpec) :=
  OpenClaim.holds_of_wide 9 Tryd.f9 rfl rfl rfl rfl rfl rfl rfl ⟨rfl, rfl, rfl, rfl, rfl⟩ rfl rfl rfl rfl rfl (by kernel_rfl) Tryd.func9 (by kernel_rfl)
    (of_decide_eq_true (by kernel_rfl)) (by unfold Func.isWrapper; first | (rw [if_pos (by decide +kernel)]; kernel_rfl) | (rw [if_neg (by decide +kernel)]; exact ⟨rfl, rfl⟩))
    (fun os started H enc _ => lifted os started H enc)

theorem proved : Rows.RatioMakesCardSaid :=
  Claim7.holds_tied_plain_at .later [] [.data, .data, .data] true (true, "11adef078fe66e4a341a668750a16cfedc9afc69f03447602818c62d2f963768") true
    over (fun _ h => by cases h) (by kernel_rfl) (fun _ h => by cases h) ratioMakes_row_tie rfl ⟨rfl, rfl⟩ (by kernel_rfl) rfl
    (fun f fn hf hfn => by
      obtain rfl : f = 9 := Option.some.inj ((show Tryd.prog.funcNamed "shapesearch/shapesearchlaw01.RatioMakes" = some 9 by kernel_rfl).symm.trans hf) |>.symm
      obtain rfl : fn = Tryd.f9 := (Option.some.inj (Tryd.func9.symm.trans hfn)).symm
      exact ⟨by kernel_rfl, fun j t ht => by
        rw [Tryd.params9] at ht
        have hm : t ∈ [50] := by simpa using Array.mem_of_getElem? ht
        have hall : ([50].all fun u => !Tryd.prog.wantsStandIn u) = true := by kernel_rfl
        exact (show Tryd.prog.wantsStandIn t = false by simpa using List.all_eq_true.1 hall t hm)⟩)
    (by kernel_rfl)
end Go.Proofs.YtmpkjlifcdobiaaDoor.ratioMakes
