/- That the law UnitRounds returns true for every input that can be read, and leaves its arguments as they were; the package variables that it lists start as the program lays them, which the card ties to the text; no further condition. -/
import Derived.Test.YtoacbboidigphaaDoorRows
import Derived.WalkKit
import Derived.ProofKit
import Derived.OpenShut
import Derived.LaidMore
import Derived.Stop.Joined
import Derived.SevenTiedAt
import Derived.Test.YtoacbboidigphaaDoorCards
import Derived.Test.YtoacbboidigphaaDoorTie
import Derived.Test.YtoacbboidigphaaDoorWords
import Derived.Test.YtoacbboidigphaaDoorUnitAwake
import Derived.ShutString
namespace Go.Proofs.YtoacbboidigphaaDoor.unitRounds
open Go.ChangeShapes Go.WideShapes Go.ChangeAt Go.RowKit Wo
open Go.ChangeMaps (open_string shut_string)
set_option linter.unusedVariables false      -- a walk need not use every 'w<i>' (that an integer argument fits its kind)

theorem own : ownKnob Tryd.prog.godebug = none := by kernel_rfl

open Go.Proofs.YtoacbboidigphaaDoor.Un in
set_option maxHeartbeats 4000000 in
set_option maxRecDepth 100000 in
theorem walk (a0 : Int) (a1 : Int) (a2 : Int) (a3 : Int) (w0 : (Lit.int .i32 a0).wf = true) (w1 : (Lit.int .u8 a1).wf = true) (w2 : (Lit.int .u8 a2).wf = true) (w3 : (Lit.int .i16 a3).wf = true) (w : World) (hL : Un.Pows w) :
    Calls Tryd.prog 4 #[.int .i32 a0, .int .u8 a1, .int .u8 a2, .int .i16 a3] w fun e w' => e = .returned (.bool true) ∧ Below w.heap.size w w' := by
  have b0 := bounds_i32 w0
  have b1 := bounds_u8 w1
  have b2 := bounds_u8 w2
  have b3 := bounds_i16 w3
  obtain ⟨i1, i2⟩ := b0
  obtain ⟨i3, i4⟩ := b1
  obtain ⟨i5, i6⟩ := b2
  obtain ⟨i7, i8⟩ := b3
  have HP := Lib.hid hL
  have HW := Lib.hid (And.intro w0 (And.intro w1 (And.intro w2 w3)))
  clear hL w0 w1 w2 w3
  have hn := fl_parts a0 1000000 (by decide)
  obtain ⟨-, -, n1, n2⟩ := hn
  obtain ⟨n, hn⟩ : ∃ n, a0.tmod 1000000 = n := ⟨_, rfl⟩
  rw [hn] at n1 n2
  have x := mul_in (x := n) (X := 1000000) (y := 1 + a1) (Y := 256) (by omega) (by omega) (by omega) (by omega) (by omega)
  obtain ⟨x1, x2⟩ := x
  obtain ⟨q, hq⟩ : ∃ q, hup (n * (1 + a1) + a3 * 100) ((1 + a2) * 100) = q := ⟨_, rfl⟩
  have h1 := hup_in (n * (1 + a1) + a3 * 100) ((1 + a2) * 100) (by omega)
  have h2 := hup_ge (n * (1 + a1) + a3 * 100) ((1 + a2) * 100) 1001 (by omega)
  have h3 := hup_ge (n * (1 + a1) + a3 * 100) ((1 + a2) * 100) (-1000) (by omega)
  rw [hq] at h1 h2 h3
  have HC : ∀ W, Pows W → Calls Tryd.prog 11 #[.agg #[.int .i64 n, .int .i64 2], .agg #[.string ⟨#[117]⟩, .int .i64 (1 + a1), .int .i64 a3, .int .i64 (1 + a2)]] W fun e w' => e = .returned (cvt (n * (1 + a1) + a3 * 100) ((1 + a2) * 100)) ∧ Bel W w' := fun W hW =>
    conv_as n 2 _ (1 + a1) a3 (1 + a2) _ (by omega) (by omega) (by decide) (low_lit (by decide) (by decide) (by decide)) (by omega) (by omega) (by omega) (by omega) (by omega) (by omega) (by rfl) W hW
  have HV : Hid (cvt (n * (1 + a1) + a3 * 100) ((1 + a2) * 100) = if smp q = true then .tuple #[.int .i64 q, .int .i64 0] else .tuple #[.int .i64 0, .int .i64 12]) := by
    show cvt _ _ = _
    unfold cvt
    rw [hq]
  rw [HV.out] at HC
  obtain ⟨X, hX⟩ : ∃ X, n * (1 + a1) = X := ⟨_, rfl⟩
  rw [hX] at h1 h2 h3 x1 x2
  clear HV hq
  rcases hs : smp q
  · have hs' : q < -1000 ∨ 1000 < q := by
      have : ¬ (-1000 ≤ q ∧ q ≤ 1000) := of_decide_eq_false hs
      omega
    have hs2 : ¬ smp q = true := by rw [hs]; decide
    rw [if_neg hs2] at HC
    have JC := Lib.hid HC
    have t1 : 2 * (X + a3 * 100) ≥ 2001 * ((1 + a2) * 100) ∨ ¬ 2 * (X + a3 * 100) ≥ 2001 * ((1 + a2) * 100) ∧ 2 * (X + a3 * 100) < -2001 * ((1 + a2) * 100) := by
      rcases hs' with h | h
      · refine .inr ⟨?_, ?_⟩
        · intro k; have := h2.2 (by omega); omega
        · rcases Int.lt_or_le (2 * (X + a3 * 100)) (-2001 * ((1 + a2) * 100)) with k | k
          · exact k
          · have := h3.2 (by omega); omega
      · exact .inl (by have := h2.1 (by omega); omega)
    clear HC hs hs2 hs' h1 h2 h3
    have HN := Lib.hid hn
    rcases t1 with t1 | ⟨t1, t2⟩
    all_goals
      go_enter Tryd.func4, Tryd.ntmps4
      go_wp2_with fail
      go_at_call 11
      refine (JC.out _ (HP.out.bel (Bel.rf.al _))).mono ?_
      rintro e w1 ⟨rfl, hb1⟩
      have B1 : Bk w1 w.heap.size 27 #[.string ⟨#[117]⟩, .int .i64 (1 + a1), .int .i64 a3, .int .i64 (1 + a2)] := (Bk.nw _ _ _).bel hb1
      have k1 : w1.cell? ⟨w.heap.size, 1, none⟩ = some (.int .i64 (1 + a1)) := B1.cell 1
      have k2 : w1.cell? ⟨w.heap.size, 2, none⟩ = some (.int .i64 a3) := B1.cell 2
      have k3 : w1.cell? ⟨w.heap.size, 3, none⟩ = some (.int .i64 (1 + a2)) := B1.cell 3
      have HX : Hid (Bel w w1) := (Bel.rf.al _).tr hb1
      have HP1 := Lib.hid ((HP.out.bel (Bel.rf.al _)).bel hb1)
      clear hb1 B1
      have wx : IntKind.i64.wrap X = X := IntWalk.i64_in _ (by omega)
      have wx2 : IntKind.i64.wrap (X + a3 * 100) = X + a3 * 100 := IntWalk.i64_in _ (by omega)
      go_wp2_with fail
      go_quiet (fail)
      clear wx wx2
      go_wp2_with (go_at_call 7; refine (awake_any _ (HP1.out.bel (Bel.rf.drwN _))).mono ?_; rintro e w9 ⟨rfl, hb9⟩)
      go_ret
      exact ⟨rfl, ((HX.out.drwN _).tr hb9).bl⟩
  · have hs' : -1000 ≤ q ∧ q ≤ 1000 := of_decide_eq_true hs
    rw [if_pos hs] at HC
    have JC := Lib.hid HC
    obtain ⟨s1, s2⟩ := hs'
    have y := mul_in (x := q) (X := 1000) (y := (1 + a2) * 100) (Y := 25600) s1 s2 (by omega) (by omega) (by omega)
    obtain ⟨y1, y2⟩ := y
    obtain ⟨Y, hY⟩ : ∃ Y, q * ((1 + a2) * 100) = Y := ⟨_, rfl⟩
    rw [hY] at y1 y2 h1
    obtain ⟨t1, t2⟩ := h1
    clear HC hs h2 h3
    go_enter Tryd.func4, Tryd.ntmps4
    go_wp2_with fail
    go_at_call 11
    refine (JC.out _ (HP.out.bel (Bel.rf.al _))).mono ?_
    rintro e w1 ⟨rfl, hb1⟩
    have B1 : Bk w1 w.heap.size 27 #[.string ⟨#[117]⟩, .int .i64 (1 + a1), .int .i64 a3, .int .i64 (1 + a2)] := (Bk.nw _ _ _).bel hb1
    have k1 : w1.cell? ⟨w.heap.size, 1, none⟩ = some (.int .i64 (1 + a1)) := B1.cell 1
    have k2 : w1.cell? ⟨w.heap.size, 2, none⟩ = some (.int .i64 a3) := B1.cell 2
    have k3 : w1.cell? ⟨w.heap.size, 3, none⟩ = some (.int .i64 (1 + a2)) := B1.cell 3
    have HX : Hid (Bel w w1) := (Bel.rf.al _).tr hb1
    have HP1 := Lib.hid ((HP.out.bel (Bel.rf.al _)).bel hb1)
    clear hb1 B1
    have wx : IntKind.i64.wrap X = X := IntWalk.i64_in _ (by omega)
    have wx2 : IntKind.i64.wrap (X + a3 * 100) = X + a3 * 100 := IntWalk.i64_in _ (by omega)
    go_wp2_with fail
    go_quiet (fail)
    clear wx wx2
    go_wp2_with (go_at_call 7; refine (awake_any _ (HP1.out.bel (Bel.rf.drwN _))).mono ?_; rintro e w9 ⟨rfl, hb9⟩)
    go_ret
    exact ⟨rfl, ((HX.out.drwN _).tr hb9).bl⟩

theorem door_met (os : Os) (args : Array Value) : laidMetH Tryd.prog [("shapesearch/unit.powers", Rows.laid_shapesearch_unit_powers)] ((World.doorLaid Tryd.prog 400 os).forCall (fun _ _ => 0) ⟨#[], args, []⟩).memory :=
  laidMetH_of_parts3 (fuel := 8) (laidMet_of_run' 8 (by kernel_rfl) (by kernel_rfl)) (by kernel_rfl) (by kernel_rfl)
set_option maxRecDepth 100000 in
theorem lifted (os : Os) (started : os.Started) (H : Type) (enc : TypeId × Value → H) :
    ReturnsInHanded {} Tryd.checked os 4 .any (fun w args => (Rows.unitRoundsSpec.pre enc Tryd.prog Tryd.f4 [] false w args ∧ laidMetH Tryd.prog [("shapesearch/unit.powers", Rows.laid_shapesearch_unit_powers)] w) ∧ sizedMet enc Tryd.prog Tryd.f4 (OpenSpec.ofChange Rows.unitRoundsSpec) false w args)
      (Rows.unitRoundsSpec.post enc Tryd.prog Tryd.f4 false true false false) := by
  refine returnsInHanded_of_change_and (C := Tryd.checked) (X := fun w _ => laidMetH Tryd.prog [("shapesearch/unit.powers", Rows.laid_shapesearch_unit_powers)] w) (fun _ _ _ hh h => h.of_heap hh) own started (by kernel_rfl) Tryd.func4
    (ChangeSpec.witness_shaped (enc := enc) (C := Tryd.checked) (os := os) (X := fun w _ => laidMetH Tryd.prog [("shapesearch/unit.powers", Rows.laid_shapesearch_unit_powers)] w) false (World.doorLaid Tryd.prog 400 os) #[.int .i32 0, .int .u8 0, .int .u8 0, .int .i16 0] 8 rfl (World.shaped_of_RefB (by kernel_rfl) (by kernel_rfl)) (by kernel_rfl) (by kernel_rfl) (by kernel_rfl) (door_met os _)) ?_
  intro W base args ds gs before hval0 hW _ _ hL hsz
  have hval : ∀ (j : Nat) t v, Tryd.f4.params[j]? = some t → args[j]? = some v → Value.okWide Tryd.prog W .any base t v := hval0
  have hW' := hW
  obtain ⟨p, q, hA0, hV, rfl, hfz, hnd⟩ := hW
  have hA : DataW.TrodAll enc Tryd.prog W 0 (fun _ => true) true Tryd.f4.params.toList args.toList ds p := hA0
  rw [Tryd.params4] at hA hval
  obtain ⟨v0, vs0, d0, ds0, p0, q0, hargs, rfl, rfl, h0, r0⟩ := trodAll_cons hA
  obtain ⟨v1, vs1, d1, ds1, p1, q1, rfl, rfl, rfl, h1, r1⟩ := trodAll_cons r0
  obtain ⟨v2, vs2, d2, ds2, p2, q2, rfl, rfl, rfl, h2, r2⟩ := trodAll_cons r1
  obtain ⟨v3, vs3, d3, ds3, p3, q3, rfl, rfl, rfl, h3, r3⟩ := trodAll_cons r2
  obtain ⟨rfl, rfl, rfl⟩ := trodAll_nil r3
  obtain rfl : args = #[v0, v1, v2, v3] := by cases args; simp_all
  obtain ⟨rfl, rfl⟩ := trodVars_none hV
  obtain ⟨a0, rfl, rfl, rfl, w0⟩ := open_int Tryd.underlying21 (hval 0 21 v0 rfl rfl) h0
  obtain ⟨a1, rfl, rfl, rfl, w1⟩ := open_int Tryd.underlying5 (hval 1 5 v1 rfl rfl) h1
  obtain ⟨a2, rfl, rfl, rfl, w2⟩ := open_int Tryd.underlying5 (hval 2 5 v2 rfl rfl) h2
  obtain ⟨a3, rfl, rfl, rfl, w3⟩ := open_int Tryd.underlying35 (hval 3 35 v3 rfl rfl) h3
  clear hA0 hval0
  simp only [List.append_nil] at hW'
  refine (walk a0 a1 a2 a3 w0 w1 w2 w3 W (Un.pows_of hL)).mono fun e W' ⟨he, hg⟩ => ?_
  subst he
  exact ⟨_, rfl, post_below hW' (fun _ _ _ => (trodAll_cons_mk (shut_bool Tryd.underlying4 _) trodAll_mk0)) (fun sp _ => (trodAll_cons_mk (shut_int Tryd.underlying21 w0) (trodAll_cons_mk (shut_int Tryd.underlying5 w1) (trodAll_cons_mk (shut_int Tryd.underlying5 w2) (trodAll_cons_mk (shut_int Tryd.underlying35 w3) trodAll_mk0))))) (fun _ _ => rfl) rfl hg (ok_one (by kernel_rfl) rfl (okWide_bool_mk Tryd.underlying4 _))⟩

theorem over : Rows.unitRoundsRow.holds Tryd.pinned (OpenSpec.ofChange Rows.unitRoundsSpec) :=
  OpenClaim.holds_of_wide 4 Tryd.f4 rfl rfl rfl rfl rfl rfl rfl ⟨rfl, rfl, rfl, rfl, rfl⟩ rfl rfl rfl rfl rfl (by kernel_rfl) Tryd.func4 (by kernel_rfl)
    (of_decide_eq_true (by kernel_rfl)) (by unfold Func.isWrapper; first | (rw [if_pos (by decide +kernel)]; kernel_rfl) | (rw [if_neg (by decide +kernel)]; exact ⟨rfl, rfl⟩))
    (fun os started H enc _ => lifted os started H enc)

theorem proved : Rows.UnitRoundsCardSaid :=
  Claim7.holds_tied_plain_at .later [] [.data] true (true, "3d7a6eadce1b0bc04abeec8a482016c86e46d851c34edec460e81e1d5ba11ffb") false
    over (fun _ h => by cases h) (by kernel_rfl) (fun _ h => by cases h) unitRounds_row_tie rfl ⟨rfl, rfl⟩ (by kernel_rfl) rfl
    (fun f fn hf hfn => by
      obtain rfl : f = 4 := Option.some.inj ((show Tryd.prog.funcNamed "shapesearch/shapesearchlaw04.UnitRounds" = some 4 by kernel_rfl).symm.trans hf) |>.symm
      obtain rfl : fn = Tryd.f4 := (Option.some.inj (Tryd.func4.symm.trans hfn)).symm
      exact ⟨by kernel_rfl, fun j t ht => by
        rw [Tryd.params4] at ht
        have hm : t ∈ [21, 5, 35] := by simpa using Array.mem_of_getElem? ht
        have hall : ([21, 5, 35].all fun u => !Tryd.prog.wantsStandIn u) = true := by kernel_rfl
        exact (show Tryd.prog.wantsStandIn t = false by simpa using List.all_eq_true.1 hall t hm)⟩)
    (by kernel_rfl)
end Go.Proofs.YtoacbboidigphaaDoor.unitRounds
