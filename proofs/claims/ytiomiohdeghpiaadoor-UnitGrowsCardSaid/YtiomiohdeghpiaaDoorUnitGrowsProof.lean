/- That the law UnitGrows returns true for every input that can be read, and leaves its arguments as they were; the package variables that it lists start as the program lays them, which the card ties to the text; no further condition. -/
import Derived.Test.YtiomiohdeghpiaaDoorRows
import Derived.WalkKit
import Derived.ProofKit
import Derived.OpenShut
import Derived.LaidMore
import Derived.Stop.Joined
import Derived.SevenTiedAt
import Derived.Test.YtiomiohdeghpiaaDoorCards
import Derived.Test.YtiomiohdeghpiaaDoorTie
import Derived.Test.YtiomiohdeghpiaaDoorShelf
import Derived.Test.YtiomiohdeghpiaaDoorWords
import Derived.Test.YtiomiohdeghpiaaDoorRatioMath
import Derived.Test.YtiomiohdeghpiaaDoorSrc
import Derived.Test.YtiomiohdeghpiaaDoorSrcN
import Derived.Test.YtiomiohdeghpiaaDoorSrcNew
import Derived.Test.YtiomiohdeghpiaaDoorSrcMore
import Derived.Test.YtiomiohdeghpiaaDoorRegionInv
import Derived.Test.YtiomiohdeghpiaaDoorUnitAwake
import Derived.Test.YtiomiohdeghpiaaDoorUnitMade
import Derived.ShutString
import Derived.ChangeOld
import Derived.Below
namespace Go.Proofs.YtiomiohdeghpiaaDoor.unitGrows
open Go.ChangeShapes Go.WideShapes Go.ChangeAt Go.RowKit Wo
open Go.ChangeMaps (open_string shut_string)
set_option linter.unusedVariables false

theorem own : ownKnob Tryd.prog.godebug = none := by kernel_rfl
theorem laidOut : laidOutB Tryd.prog = true := by kernel_rfl

/-- WHAT THE WALK IS TOLD OF A SLICE OF INTEGERS THAT CAME IN: it is nil; or it leads to a row of 'cap' cells, the numbers 'zs' (the first 'len' are its elements, the rest its spare room), each fitting its kind. -/
def IsRow (k : IntKind) (w : World) (a : Option Addr) (len cap : Nat) (zs : List Int) : Prop :=
  (a = none ∧ len = 0 ∧ cap = 0 ∧ zs = []) ∨
  ∃ x, a = some x ∧ len ≤ cap ∧ cap ≤ maxLen ∧ zs.length = cap ∧ (∀ i, i < zs.length → w.cell? (x.add i) = some (.int k (zs.getD i 0))) ∧ ∀ n ∈ zs, (Lit.int k n).wf = true

open Go.Proofs.YtiomiohdeghpiaaDoor.Un Go.Proofs.YtiomiohdeghpiaaDoor.Wo
theorem grow_key (mn mx m a d : Int) (h : mn ≤ mx) (hm : 1 ≤ m) (hd : 1 ≤ d) : ∃ X E Y F : Int,
    cvt (mn * m + a * 10 ^ 1) (d * 10 ^ 1) = .tuple #[.int .i64 X, .int .i64 E] ∧ cvt (100 * mn * m + a * 10 ^ 3) (d * 10 ^ 3) = .tuple #[.int .i64 X, .int .i64 E] ∧
    cvt (mx * m + a * 10 ^ 1) (d * 10 ^ 1) = .tuple #[.int .i64 Y, .int .i64 F] ∧ (E = 12 ∨ E = 0 ∧ F = 12 ∨ E = 0 ∧ F = 0 ∧ X ≤ Y) := by
  have e1 : 100 * mn * m + a * 10 ^ 3 = (mn * m + a * 10 ^ 1) * 100 := by grind
  have e2 : d * 10 ^ 3 = d * 10 ^ 1 * 100 := by grind
  have hs := hup_scale (mn * m + a * 10 ^ 1) (d * 10 ^ 1) 100 (by omega) (by decide)
  rw [← e1, ← e2] at hs
  have hl : mn * m ≤ mx * m := Int.mul_le_mul_of_nonneg_right h (by omega)
  have hmo := hup_mono (mn * m + a * 10 ^ 1) (mx * m + a * 10 ^ 1) (d * 10 ^ 1) (by omega) (by omega)
  unfold cvt
  rw [hs]
  generalize hup (mn * m + a * 10 ^ 1) (d * 10 ^ 1) = q1 at *
  generalize hup (mx * m + a * 10 ^ 1) (d * 10 ^ 1) = q2 at *
  rcases hb : smp q1
  · rcases hc : smp q2
    · exact ⟨0, 12, 0, 12, rfl, rfl, rfl, .inl rfl⟩
    · exact ⟨0, 12, q2, 0, rfl, rfl, rfl, .inl rfl⟩
  · rcases hc : smp q2
    · exact ⟨q1, 0, 0, 12, rfl, rfl, rfl, .inr (.inl ⟨rfl, rfl⟩)⟩
    · exact ⟨q1, 0, q2, 0, rfl, rfl, rfl, .inr (.inr ⟨rfl, rfl, hmo⟩)⟩
open Go.Proofs.YtiomiohdeghpiaaDoor.Un in
set_option maxHeartbeats 4000000 in
set_option maxRecDepth 100000 in
theorem walk (a0 : Int) (a1 : Int) (a2 : Option Addr) (len2 cap2 : Nat) (z2 : List Int) (w : World) (hL : Un.Pows w) (w0 : (Lit.int .i16 a0).wf = true) (w1 : (Lit.int .i16 a1).wf = true) (w2 : IsRow .i64 w a2 len2 cap2 z2) :
    Calls Tryd.prog 5 #[.int .i16 a0, .int .i16 a1, .slice a2 len2 cap2] w fun e w' => e = .returned (.bool true) ∧ Below w.heap.size w w' := by
  have b0 := bounds_i16 w0
  have b1 := bounds_i16 w1
  obtain ⟨i1, i2⟩ := b0
  obtain ⟨i3, i4⟩ := b1
  have HP := Lib.hid hL
  have HW := Lib.hid (And.intro w0 w1)
  clear hL w0 w1
  have hmm : min a0 a1 ≤ max a0 a1 ∧ -32768 ≤ min a0 a1 ∧ min a0 a1 ≤ 32767 ∧ -32768 ≤ max a0 a1 ∧ max a0 a1 ≤ 32767 := by omega
  obtain ⟨hm0, hm1, hm2, hm3, hm4⟩ := hmm
  · skip
    have HS := Lib.hid w2
    clear w2
    go_enter Tryd.func5, Tryd.ntmps5
    go_wp2_with fail
    go_at_call 7
    refine (made_any a2 len2 cap2 z2 w HS.out).mono ?_
    rintro e w1 ⟨x, p, s, m, a, d, rfl, ⟨-, -, -, hs, m1, m2, g1, g2, d1, d2⟩, hb1⟩
    have HX1 := Lib.hid hb1
    have HLOW := Lib.hid hs
    obtain ⟨X, E, Y, F, k1, k2, k3, k4⟩ := grow_key (min a0 a1) (max a0 a1) m a d (by omega) (by omega) (by omega)
    have C1 : Hid (∀ W, Pows W → Calls Tryd.prog 12 #[.agg #[.int .i64 (min a0 a1), .int .i64 1], .agg #[.string s, .int .i64 m, .int .i64 a, .int .i64 d]] W fun e w' => e = .returned (.tuple #[.int .i64 X, .int .i64 E]) ∧ Bel W w') := fun W hW =>
      conv_as ((min a0 a1)) 1 s m a d _ (by omega) (by omega) (by decide) HLOW.out (by omega) (by omega) (by omega) (by omega) (by omega) (by omega) k1 W hW
    have C2 : Hid (∀ W, Pows W → Calls Tryd.prog 12 #[.agg #[.int .i64 (max a0 a1), .int .i64 1], .agg #[.string s, .int .i64 m, .int .i64 a, .int .i64 d]] W fun e w' => e = .returned (.tuple #[.int .i64 Y, .int .i64 F]) ∧ Bel W w') := fun W hW =>
      conv_as ((max a0 a1)) 1 s m a d _ (by omega) (by omega) (by decide) HLOW.out (by omega) (by omega) (by omega) (by omega) (by omega) (by omega) k3 W hW
    have C3 : Hid (∀ W, Pows W → Calls Tryd.prog 12 #[.agg #[.int .i64 (100 * (min a0 a1)), .int .i64 3], .agg #[.string s, .int .i64 m, .int .i64 a, .int .i64 d]] W fun e w' => e = .returned (.tuple #[.int .i64 X, .int .i64 E]) ∧ Bel W w') := fun W hW =>
      conv_as (100 * (min a0 a1)) 3 s m a d _ (by omega) (by omega) (by decide) HLOW.out (by omega) (by omega) (by omega) (by omega) (by omega) (by omega) k2 W hW
    have HP1 := Lib.hid (HP.out.bel hb1)
    clear hb1 hs k1 k2 k3
    rcases k4 with rfl | ⟨rfl, rfl⟩ | ⟨rfl, rfl, hle⟩
    all_goals
      go_wp2_with fail
      go_at_call 12
      refine (C1.out _ (HP1.out.bel (by repeat (first | exact Bel.rf | (with_reducible refine Bel.drwN ?_ _) | (with_reducible refine Bel.drw ?_) | (with_reducible refine Bel.al ?_ _) | ((with_reducible refine Bel.st2 ?_ ?_ _); (show _ ≤ _); (simp only []; omega)) | refine Bel.tr ?_ (by assumption))))).mono ?_
      rintro e v1 ⟨rfl, hv1⟩
      have B1 : Bk v1 (w1.heap.size + 1) 25 #[.string s, .int .i64 m, .int .i64 a, .int .i64 d] := Bk.bel (by first | exact Bk.nq _ _ _ (by simp) | (refine Bk.fin ?_; simp)) hv1
      have q0 := B1.cell 0
      have q1 := B1.cell 1
      have q2 := B1.cell 2
      have q3 := B1.cell 3
      have HV1 : Hid (Bel w1 v1) := (by repeat (first | exact Bel.rf | (with_reducible refine Bel.drwN ?_ _) | (with_reducible refine Bel.drw ?_) | (with_reducible refine Bel.al ?_ _) | ((with_reducible refine Bel.st2 ?_ ?_ _); (show _ ≤ _); (simp only []; omega)) | refine Bel.tr ?_ (by assumption)))
      have HP2 := Lib.hid (HP1.out.bel HV1.out)
      have HB1 := Lib.hid B1
      clear hv1 B1
      go_wp2_with fail
      go_at_call 12
      refine (C2.out _ HP2.out).mono ?_
      rintro e v2 ⟨rfl, hv2⟩
      have B2 := HB1.out.bel hv2
      have q0 := B2.cell 0
      have q1 := B2.cell 1
      have q2 := B2.cell 2
      have q3 := B2.cell 3
      have HV2 := Lib.hid (HV1.out.tr hv2)
      have HP3 := Lib.hid (HP2.out.bel hv2)
      clear hv2 B2
      go_wp2_with fail
      go_at_call 12
      refine (C3.out _ HP3.out).mono ?_
      rintro e v3 ⟨rfl, hv3⟩
      have HV3 := Lib.hid (HX1.out.tr (HV2.out.tr hv3))
      have HP4 := Lib.hid (HP3.out.bel hv3)
      clear hv3 q0 q1 q2 q3
      go_wp2_with (go_at_call 6; refine (awake_any _ HP4.out).mono ?_; rintro e w9 ⟨rfl, hb9⟩)
      go_ret
      exact ⟨rfl, (HV3.out.tr hb9).bl⟩

theorem door_met (os : Os) (args : Array Value) : laidMetH Tryd.prog [("shapesearch/unit.powers", Rows.laid_shapesearch_unit_powers)] ((World.doorLaid Tryd.prog 400 os).forCall (fun _ _ => 0) ⟨#[], args, []⟩).memory :=
  laidMetH_of_parts3 (fuel := 8) (laidMet_of_run' 8 (by kernel_rfl) (by kernel_rfl)) (by kernel_rfl) (by kernel_rfl)
set_option maxRecDepth 100000 in
theorem lifted (os : Os) (started : os.Started) (H : Type) (enc : TypeId × Value → H) :
    ReturnsInHanded {} Tryd.checked os 5 .any (fun w args => (Rows.unitGrowsSpec.pre enc Tryd.prog Tryd.f5 [] false w args ∧ laidMetH Tryd.prog [("shapesearch/unit.powers", Rows.laid_shapesearch_unit_powers)] w) ∧ sizedMet enc Tryd.prog Tryd.f5 (OpenSpec.ofChange Rows.unitGrowsSpec) false w args)
      (Rows.unitGrowsSpec.post enc Tryd.prog Tryd.f5 false true false false) := by
  refine returnsInHanded_of_change_and (C := Tryd.checked) (X := fun w _ => laidMetH Tryd.prog [("shapesearch/unit.powers", Rows.laid_shapesearch_unit_powers)] w) (fun _ _ _ hh h => h.of_heap hh) own started (by kernel_rfl) Tryd.func5
    (ChangeSpec.witness_shaped (enc := enc) (C := Tryd.checked) (os := os) (X := fun w _ => laidMetH Tryd.prog [("shapesearch/unit.powers", Rows.laid_shapesearch_unit_powers)] w) false (World.doorLaid Tryd.prog 400 os) #[.int .i16 0, .int .i16 0, .slice none 0 0] 8 rfl (World.shaped_of_RefB (by kernel_rfl) (by kernel_rfl)) (by kernel_rfl) (by kernel_rfl) (by kernel_rfl) (door_met os _)) ?_
  intro W base args ds gs before hval0 hW _ _ hL hsz
  have hval : ∀ (j : Nat) t v, Tryd.f5.params[j]? = some t → args[j]? = some v → Value.okWide Tryd.prog W .any base t v := hval0
  have hW' := hW
  obtain ⟨p, q, hA0, hV, rfl, hfz, hnd⟩ := hW
  have hA : DataW.TrodAll enc Tryd.prog W 0 (fun _ => true) true Tryd.f5.params.toList args.toList ds p := hA0
  rw [Tryd.params5] at hA hval
  obtain ⟨v0, vs0, d0, ds0, p0, q0, hargs, rfl, rfl, h0, r0⟩ := trodAll_cons hA
  obtain ⟨v1, vs1, d1, ds1, p1, q1, rfl, rfl, rfl, h1, r1⟩ := trodAll_cons r0
  obtain ⟨v2, vs2, d2, ds2, p2, q2, rfl, rfl, rfl, h2, r2⟩ := trodAll_cons r1
  obtain ⟨rfl, rfl, rfl⟩ := trodAll_nil r2
  obtain rfl : args = #[v0, v1, v2] := by cases args; simp_all
  obtain ⟨rfl, rfl⟩ := trodVars_none hV
  obtain ⟨a0, rfl, rfl, rfl, w0⟩ := open_int Tryd.underlying42 (hval 0 42 v0 rfl rfl) h0
  obtain ⟨a1, rfl, rfl, rfl, w1⟩ := open_int Tryd.underlying42 (hval 1 42 v1 rfl rfl) h1
  obtain ⟨a2, len2, cap2, rfl⟩ := okWide_slice Tryd.underlying26 (hval 2 26 v2 rfl rfl)
  have k2 := h2
  have lt2 : ∀ x ∈ p2, x.block < W.heap.size := by obtain ⟨m, hm⟩ := k2; exact DataW.trod_lt m _ _ _ hm
  obtain ⟨z2, w2⟩ : ∃ zs, IsRow .i64 W a2 len2 cap2 zs := by
    obtain ⟨fuel, hf⟩ := h2
    rcases open_ints Tryd.underlying26 Tryd.underlying3 (by kernel_rfl) hf with ⟨hcs, _⟩ | ⟨x, l, c, zs, hcs, _, hl, hm, hz, _, hcell, hwz⟩
    · simp [Value.cells] at hcs
      obtain ⟨rfl, rfl, rfl⟩ := hcs
      exact ⟨[], .inl ⟨rfl, rfl, rfl, rfl⟩⟩
    · simp [Value.cells] at hcs
      obtain ⟨rfl, rfl, rfl⟩ := hcs
      exact ⟨zs, .inr ⟨_, rfl, hl, hm, by simpa using hz, hcell, hwz⟩⟩
  clear hA0 hval0
  refine (walk a0 a1 a2 len2 cap2 z2 W (Un.pows_of hL) w0 w1 w2).mono fun e W' ⟨he, bel⟩ => ?_
  subst he
  exact ⟨_, rfl, _, _, _, [], _, [], hW', trodAll_mk1 (shut_bool Tryd.underlying4 _), (trodAll_cons_mk (shut_int Tryd.underlying42 w0) (trodAll_cons_mk (shut_int Tryd.underlying42 w1) (trodAll_cons_mk (Below.trod laidOut (by kernel_rfl) (of_decide_eq_true (by kernel_rfl)) k2 bel lt2) trodAll_mk0))), rfl, bel.frame _, fun h => by cases h⟩

theorem over : Rows.unitGrowsRow.holds Tryd.pinned (OpenSpec.ofChange Rows.unitGrowsSpec) :=
  OpenClaim.holds_of_wide 5 Tryd.f5 rfl rfl rfl rfl rfl rfl rfl ⟨rfl, rfl, rfl, rfl, rfl⟩ rfl rfl rfl rfl rfl (by kernel_rfl) Tryd.func5 (by kernel_rfl)
    (of_decide_eq_true (by kernel_rfl)) (by unfold Func.isWrapper; first | (rw [if_pos (by decide +kernel)]; kernel_rfl) | (rw [if_neg (by decide +kernel)]; exact ⟨rfl, rfl⟩))
    (fun os started H enc _ => lifted os started H enc)

theorem proved : Rows.UnitGrowsCardSaid :=
  Claim7.holds_tied_plain_at .later [] [.data] true (true, "1b633bda8bd5cc42814936a045d4cd7344cebfa55c8212daf3cf61697b1a24c7") false
    over (fun _ h => by cases h) (by kernel_rfl) (fun _ h => by cases h) unitGrows_row_tie rfl ⟨rfl, rfl⟩ (by kernel_rfl) rfl
    (fun f fn hf hfn => by
      obtain rfl : f = 5 := Option.some.inj ((show Tryd.prog.funcNamed "shapesearch/shapesearchlaw04.UnitGrows" = some 5 by kernel_rfl).symm.trans hf) |>.symm
      obtain rfl : fn = Tryd.f5 := (Option.some.inj (Tryd.func5.symm.trans hfn)).symm
      exact ⟨by kernel_rfl, fun j t ht => by
        rw [Tryd.params5] at ht
        have hm : t ∈ [42, 26] := by simpa using Array.mem_of_getElem? ht
        have hall : ([42, 26].all fun u => !Tryd.prog.wantsStandIn u) = true := by kernel_rfl
        exact (show Tryd.prog.wantsStandIn t = false by simpa using List.all_eq_true.1 hall t hm)⟩)
    (by kernel_rfl)
end Go.Proofs.YtiomiohdeghpiaaDoor.unitGrows
