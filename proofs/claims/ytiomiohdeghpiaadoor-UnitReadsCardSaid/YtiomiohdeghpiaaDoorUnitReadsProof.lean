/- That the law UnitReads returns true for every input that can be read, and leaves its arguments as they were; the package variables that it lists start as the program lays them, which the card ties to the text; no further condition. -/
import Derived.Test.YtiomiohdeghpiaaDoorRows
import Derived.WalkKit
import Derived.ProofKit
import Derived.OpenShut
import Derived.LaidMore
import Derived.Stop.Joined
import Derived.SevenTiedAt
import Derived.Test.YtiomiohdeghpiaaDoorCards
import Derived.Test.YtiomiohdeghpiaaDoorTie
import Derived.Test.YtiomiohdeghpiaaDoorShelf
import Derived.Test.YtiomiohdeghpiaaDoorWords
import Derived.Test.YtiomiohdeghpiaaDoorRatioMath
import Derived.Test.YtiomiohdeghpiaaDoorSrc
import Derived.Test.YtiomiohdeghpiaaDoorSrcN
import Derived.Test.YtiomiohdeghpiaaDoorSrcNew
import Derived.Test.YtiomiohdeghpiaaDoorSrcMore
import Derived.Test.YtiomiohdeghpiaaDoorRegionInv
import Derived.Test.YtiomiohdeghpiaaDoorUnitAwake
import Derived.Test.YtiomiohdeghpiaaDoorUnitMade
import Derived.Test.YtiomiohdeghpiaaDoorUnitFmt
import Derived.ShutString
import Derived.ChangeOld
import Derived.Below
namespace Go.Proofs.YtiomiohdeghpiaaDoor.unitReads
open Go.ChangeShapes Go.WideShapes Go.ChangeAt Go.RowKit Wo
open Go.ChangeMaps (open_string shut_string)
set_option linter.unusedVariables false

theorem own : ownKnob Tryd.prog.godebug = none := by kernel_rfl
theorem laidOut : laidOutB Tryd.prog = true := by kernel_rfl

/-- WHAT THE WALK IS TOLD OF A SLICE OF INTEGERS THAT CAME IN: it is nil; or it leads to a row of 'cap' cells, the numbers 'zs' (the first 'len' are its elements, the rest its spare room), each fitting its kind. -/
def IsRow (k : IntKind) (w : World) (a : Option Addr) (len cap : Nat) (zs : List Int) : Prop :=
  (a = none ∧ len = 0 ∧ cap = 0 ∧ zs = []) ∨
  ∃ x, a = some x ∧ len ≤ cap ∧ cap ≤ maxLen ∧ zs.length = cap ∧ (∀ i, i < zs.length → w.cell? (x.add i) = some (.int k (zs.getD i 0))) ∧ ∀ n ∈ zs, (Lit.int k n).wf = true

section
open Go.Proofs.YtiomiohdeghpiaaDoor.Un Go.Proofs.YtiomiohdeghpiaaDoor.Wo Go.Lib
theorem prs_cases (S : Sc) (m : Bool) : prs S m = .tuple #[.agg #[.int .i64 0, .int .i64 0], .int .i64 3] ∨ prs S m = .tuple #[.agg #[.int .i64 0, .int .i64 0], .int .i64 1] ∨ ∃ X P, prs S m = .tuple #[.agg #[.int .i64 X, .int .i64 P], .int .i64 0] := by
  unfold prs
  split
  · exact .inl rfl
  · split
    · exact .inr (.inl rfl)
    · exact .inr (.inr ⟨_, _, rfl⟩)
theorem fb_small (n p : Nat) (h : n ≤ 1000000000) (hp : p ≤ 6) : (fb n p).length ≤ 20 := by
  have h1 := pad_len n p
  have h2 := nd_le h
  unfold fb
  split
  · omega
  · rw [List.length_append, List.length_cons, List.length_take, List.length_drop]; omega
theorem back_calls (x : Int) (p : Nat) (h0 : -1000000000 ≤ x) (h1 : x ≤ 1000000000) (hp : p ≤ 6) (W : World) :
    Calls Tryd.prog 9 #[.string ⟨(fm x p).toArray⟩] W fun e w' => e = .returned (.tuple #[.agg #[.int .i64 x, .int .i64 (p : Int)], .int .i64 0]) ∧ Bel W w' := by
  have hp2 := fm_pre x p
  have hs : (⟨(fb x.natAbs p).toArray⟩ : ByteArray).size ≤ 4611686018427387904 := by
    have := fb_small x.natAbs p (by omega) hp
    show (fb x.natAbs p).toArray.size ≤ _
    simp; omega
  refine (parse_any ⟨(fm x p).toArray⟩ ⟨(fb x.natAbs p).toArray⟩ (decide (x < 0)) hs (by show (⟨(Lib.trimPrefix (fm x p).toArray.toList [45]).toArray⟩ : ByteArray) = _; rw [List.toList_toArray, hp2.2]) (by show Lib.hasPrefix (fm x p).toArray.toList [45] = _; rw [List.toList_toArray, hp2.1]) W).mono fun e w' ⟨he, hb⟩ => ⟨?_, hb⟩
  rw [he]
  show Ending.returned (prs (rn (fb x.natAbs p)) (decide (x < 0))) = _
  rw [fm_back x p h0 h1 hp]
theorem again_str (s : ByteArray) (X P : Int) (h : prs (rn (Lib.trimPrefix s.data.toList [45])) (Lib.hasPrefix s.data.toList [45]) = .tuple #[.agg #[.int .i64 X, .int .i64 P], .int .i64 0]) :
    ∃ p : Nat, P = (p : Int) ∧ p ≤ 6 ∧ -1000000000 ≤ X ∧ X ≤ 1000000000 ∧ (⟨(fm X p).toArray⟩ : ByteArray) = s := by
  obtain ⟨p, h1, h2, h3, h4, h5, h6⟩ := fm_again _ _ X P h
  refine ⟨p, h1, h2, h3, h4, ?_⟩
  have e : fm X p = s.data.toList := by
    unfold fm
    rw [h5]
    rcases hm : Lib.hasPrefix s.data.toList [45]
    · rw [hm] at h6
      rw [if_neg (of_decide_eq_false h6), pre_no _ hm]
    · rw [hm] at h6
      rw [if_pos (of_decide_eq_true h6)]
      exact (pre_of _ hm).symm
  rw [e]
end
open Go.Proofs.YtiomiohdeghpiaaDoor.Un in
set_option maxHeartbeats 8000000 in
set_option maxRecDepth 100000 in
theorem walk (a0 : ByteArray) (a1 : Option Addr) (len1 cap1 : Nat) (z1 : List Int) (w : World) (hL : Un.Both w) (w0 : a0.size ≤ maxLen) (w1 : IsRow .i64 w a1 len1 cap1 z1) :
    Calls Tryd.prog 4 #[.string a0, .slice a1 len1 cap1] w fun e w' => e = .returned (.bool true) ∧ Below w.heap.size w w' := by
  have HL := Lib.hid hL
  clear hL
  rcases Nat.lt_or_ge 60 a0.size with h60 | h60
  · have hi : (60 : Int) < (a0.size : Int) := by omega
    go_enter Tryd.func4, Tryd.ntmps4
    go_wp2_with (go_at_call 6; refine (awake_any _ HL.out.2).mono ?_; rintro e w9 ⟨rfl, hb9⟩)
    go_ret
    exact ⟨rfl, hb9.bl⟩
  · have hi : (a0.size : Int) ≤ 60 := by omega
    have HS := Lib.hid w1
    clear w1
    have JP : Hid (∀ W, Calls Tryd.prog 9 #[.string a0] W fun e w' => e = .returned (prs (rn (Lib.trimPrefix a0.data.toList [45])) (Lib.hasPrefix a0.data.toList [45])) ∧ Bel W w') := fun W =>
      parse_any a0 ⟨(Lib.trimPrefix a0.data.toList [45]).toArray⟩ _ (by
        have h1 := Lib.trimPrefix_le a0.data.toList [45]
        have h2 := Lib.size_eq a0
        show (Lib.trimPrefix a0.data.toList [45]).toArray.size ≤ _
        rw [List.size_toArray]; omega) rfl rfl W
    go_enter Tryd.func4, Tryd.ntmps4
    go_wp2_with fail
    go_at_call 7
    refine (made_any a1 len1 cap1 z1 w HS.out).mono ?_
    rintro e v1 ⟨x, p, s, m, a, d, rfl, ⟨x1, x2, hp, -, m1, m2, g1, g2, d1, d2⟩, hb1⟩
    have HX1 := Lib.hid hb1
    have pi0 : 0 ≤ (p : Int) := by omega
    have pi1 : (p : Int) ≤ 6 := by omega
    obtain ⟨T, hT⟩ : ∃ T : ByteArray, (⟨(fm x p).toArray⟩ : ByteArray) = T := ⟨_, rfl⟩
    have JF : Hid (∀ W, Itab W → Calls Tryd.prog 11 #[.agg #[.int .i64 x, .int .i64 (p : Int)]] W fun e w' => e = .returned (.string T) ∧ Bel W w') := fun W hW => by
      have := fm_any x p x1 x2 hp W hW
      rwa [hT] at this
    have JB : Hid (∀ W, Calls Tryd.prog 9 #[.string T] W fun e w' => e = .returned (.tuple #[.agg #[.int .i64 x, .int .i64 (p : Int)], .int .i64 0]) ∧ Bel W w') := fun W => by
      have := back_calls x p x1 x2 hp W
      rwa [hT] at this
    clear hb1 hT
    go_wp2_with fail
    go_at_call 11
    refine (JF.out _ (HL.out.1.bel ((HX1.out.al _).al _))).mono ?_
    rintro e v2 ⟨rfl, hb2⟩
    have HK2 : Hid (Bk v2 v1.heap.size 23 #[.int .i64 x, .int .i64 (p : Int)]) := ((Bk.nw _ _ _).al _).bel hb2
    have HX2 : Hid (Bel w v2) := ((HX1.out.al _).al _).tr hb2
    clear hb2
    go_wp2_with fail
    go_at_call 9
    refine (JB.out _).mono ?_
    rintro e v3 ⟨rfl, hb3⟩
    have HK3 := Lib.hid (HK2.out.bel hb3)
    have HX3 := Lib.hid (HX2.out.tr hb3)
    clear hb3
    go_wp2_with fail
    go_at_call 9
    refine (JP.out _).mono ?_
    rintro e v4 ⟨rfl, hb4⟩
    have HK4 := (HK3.out.al _).bel hb4
    have HN4 : Bk v4 v3.heap.size 23 #[.int .i64 x, .int .i64 (p : Int)] := (Bk.nw _ _ _).bel hb4
    have HX4 : Hid (Bel w v4) := (HX3.out.al _).tr hb4
    have k0 : v4.cell? ⟨v1.heap.size, 0, none⟩ = some (.int .i64 x) := HK4.cell 0
    have k1 : v4.cell? ⟨v1.heap.size, 1, none⟩ = some (.int .i64 (p : Int)) := HK4.cell 1
    have n0 : v4.cell? ⟨v3.heap.size, 0, none⟩ = some (.int .i64 x) := HN4.cell 0
    have n1 : v4.cell? ⟨v3.heap.size, 1, none⟩ = some (.int .i64 (p : Int)) := HN4.cell 1
    have k2 : ∀ o, (v4.alloc o).cell? ⟨v1.heap.size, 0, none⟩ = some (.int .i64 x) := fun o => kp_al k0 o
    have k3 : ∀ o, (v4.alloc o).cell? ⟨v1.heap.size, 1, none⟩ = some (.int .i64 (p : Int)) := fun o => kp_al k1 o
    have n2 : ∀ o, (v4.alloc o).cell? ⟨v3.heap.size, 0, none⟩ = some (.int .i64 x) := fun o => kp_al n0 o
    have n3 : ∀ o, (v4.alloc o).cell? ⟨v3.heap.size, 1, none⟩ = some (.int .i64 (p : Int)) := fun o => kp_al n1 o
    clear hb4 HK4 HN4 k0 k1 n0 n1
    rcases prs_cases (rn (Lib.trimPrefix a0.data.toList [45])) (Lib.hasPrefix a0.data.toList [45]) with hc | hc | ⟨X, P, hc⟩
    · rw [hc]
      go_wp2_with (go_at_call 6; refine (awake_any _ (HL.out.2.bel (HX4.out.al _))).mono ?_; rintro e w9 ⟨rfl, hb9⟩)
      go_ret
      exact ⟨rfl, ((HX4.out.al _).tr hb9).bl⟩
    · rw [hc]
      go_wp2_with (go_at_call 6; refine (awake_any _ (HL.out.2.bel (HX4.out.al _))).mono ?_; rintro e w9 ⟨rfl, hb9⟩)
      go_ret
      exact ⟨rfl, ((HX4.out.al _).tr hb9).bl⟩
    · rw [hc]
      obtain ⟨q, rfl, hq, hX1, hX2, hQ⟩ := again_str a0 X P hc
      have JG : Hid (∀ W, Itab W → Calls Tryd.prog 11 #[.agg #[.int .i64 X, .int .i64 (q : Int)]] W fun e w' => e = .returned (.string a0) ∧ Bel W w') := fun W hW => by
        have := fm_any X q hX1 hX2 hq W hW
        rwa [hQ] at this
      clear hc hQ
      go_wp2_with fail
      go_at_call 11
      refine (JG.out _ (HL.out.1.bel (HX4.out.al _))).mono ?_
      rintro e v5 ⟨rfl, hb5⟩
      have HX5 : Hid (Bel w v5) := (HX4.out.al _).tr hb5
      clear hb5
      go_wp2_with (go_at_call 6; refine (awake_any _ (HL.out.2.bel HX5.out)).mono ?_; rintro e w9 ⟨rfl, hb9⟩)
      go_ret
      exact ⟨rfl, (HX5.out.tr hb9).bl⟩

theorem door_met (os : Os) (args : Array Value) : laidMetH Tryd.prog [("math/bits.deBruijn32tab", Rows.laid_math_bits_deBruijn32tab), ("math/bits.deBruijn64tab", Rows.laid_math_bits_deBruijn64tab), ("internal/strconv.uint64pow10", Rows.laid_internal_strconv_uint64pow10), ("shapesearch/unit.powers", Rows.laid_shapesearch_unit_powers)] ((World.doorLaid Tryd.prog 400 os).forCall (fun _ _ => 0) ⟨#[], args, []⟩).memory :=
  laidMetH_of_parts3 (fuel := 8) (laidMet_of_run' 8 (by kernel_rfl) (by kernel_rfl)) (by kernel_rfl) (by kernel_rfl)
set_option maxRecDepth 100000 in
theorem lifted (os : Os) (started : os.Started) (H : Type) (enc : TypeId × Value → H) :
    ReturnsInHanded {} Tryd.checked os 4 .any (fun w args => (Rows.unitReadsSpec.pre enc Tryd.prog Tryd.f4 [] false w args ∧ laidMetH Tryd.prog [("math/bits.deBruijn32tab", Rows.laid_math_bits_deBruijn32tab), ("math/bits.deBruijn64tab", Rows.laid_math_bits_deBruijn64tab), ("internal/strconv.uint64pow10", Rows.laid_internal_strconv_uint64pow10), ("shapesearch/unit.powers", Rows.laid_shapesearch_unit_powers)] w) ∧ sizedMet enc Tryd.prog Tryd.f4 (OpenSpec.ofChange Rows.unitReadsSpec) false w args)
      (Rows.unitReadsSpec.post enc Tryd.prog Tryd.f4 false true false false) := by
  refine returnsInHanded_of_change_and (C := Tryd.checked) (X := fun w _ => laidMetH Tryd.prog [("math/bits.deBruijn32tab", Rows.laid_math_bits_deBruijn32tab), ("math/bits.deBruijn64tab", Rows.laid_math_bits_deBruijn64tab), ("internal/strconv.uint64pow10", Rows.laid_internal_strconv_uint64pow10), ("shapesearch/unit.powers", Rows.laid_shapesearch_unit_powers)] w) (fun _ _ _ hh h => h.of_heap hh) own started (by kernel_rfl) Tryd.func4
    (ChangeSpec.witness_shaped (enc := enc) (C := Tryd.checked) (os := os) (X := fun w _ => laidMetH Tryd.prog [("math/bits.deBruijn32tab", Rows.laid_math_bits_deBruijn32tab), ("math/bits.deBruijn64tab", Rows.laid_math_bits_deBruijn64tab), ("internal/strconv.uint64pow10", Rows.laid_internal_strconv_uint64pow10), ("shapesearch/unit.powers", Rows.laid_shapesearch_unit_powers)] w) false (World.doorLaid Tryd.prog 400 os) #[.string ByteArray.empty, .slice none 0 0] 8 rfl (World.shaped_of_RefB (by kernel_rfl) (by kernel_rfl)) (by kernel_rfl) (by kernel_rfl) (by kernel_rfl) (door_met os _)) ?_
  intro W base args ds gs before hval0 hW _ _ hL hsz
  have hval : ∀ (j : Nat) t v, Tryd.f4.params[j]? = some t → args[j]? = some v → Value.okWide Tryd.prog W .any base t v := hval0
  have hW' := hW
  obtain ⟨p, q, hA0, hV, rfl, hfz, hnd⟩ := hW
  have hA : DataW.TrodAll enc Tryd.prog W 0 (fun _ => true) true Tryd.f4.params.toList args.toList ds p := hA0
  rw [Tryd.params4] at hA hval
  obtain ⟨v0, vs0, d0, ds0, p0, q0, hargs, rfl, rfl, h0, r0⟩ := trodAll_cons hA
  obtain ⟨v1, vs1, d1, ds1, p1, q1, rfl, rfl, rfl, h1, r1⟩ := trodAll_cons r0
  obtain ⟨rfl, rfl, rfl⟩ := trodAll_nil r1
  obtain rfl : args = #[v0, v1] := by cases args; simp_all
  obtain ⟨rfl, rfl⟩ := trodVars_none hV
  obtain ⟨a0, rfl, rfl, rfl, w0⟩ := open_string Tryd.underlying9 (hval 0 9 v0 rfl rfl) h0
  obtain ⟨a1, len1, cap1, rfl⟩ := okWide_slice Tryd.underlying26 (hval 1 26 v1 rfl rfl)
  have k1 := h1
  have lt1 : ∀ x ∈ p1, x.block < W.heap.size := by obtain ⟨m, hm⟩ := k1; exact DataW.trod_lt m _ _ _ hm
  obtain ⟨z1, w1⟩ : ∃ zs, IsRow .i64 W a1 len1 cap1 zs := by
    obtain ⟨fuel, hf⟩ := h1
    rcases open_ints Tryd.underlying26 Tryd.underlying3 (by kernel_rfl) hf with ⟨hcs, _⟩ | ⟨x, l, c, zs, hcs, _, hl, hm, hz, _, hcell, hwz⟩
    · simp [Value.cells] at hcs
      obtain ⟨rfl, rfl, rfl⟩ := hcs
      exact ⟨[], .inl ⟨rfl, rfl, rfl, rfl⟩⟩
    · simp [Value.cells] at hcs
      obtain ⟨rfl, rfl, rfl⟩ := hcs
      exact ⟨zs, .inr ⟨_, rfl, hl, hm, by simpa using hz, hcell, hwz⟩⟩
  clear hA0 hval0
  refine (walk a0 a1 len1 cap1 z1 W (Un.both_of hL) w0 w1).mono fun e W' ⟨he, bel⟩ => ?_
  subst he
  exact ⟨_, rfl, _, _, _, [], _, [], hW', trodAll_mk1 (shut_bool Tryd.underlying4 _), (trodAll_cons_mk (shut_string Tryd.underlying9 w0) (trodAll_cons_mk (Below.trod laidOut (by kernel_rfl) (of_decide_eq_true (by kernel_rfl)) k1 bel lt1) trodAll_mk0)), rfl, bel.frame _, fun h => by cases h⟩

theorem over : Rows.unitReadsRow.holds Tryd.pinned (OpenSpec.ofChange Rows.unitReadsSpec) :=
  OpenClaim.holds_of_wide 4 Tryd.f4 rfl rfl rfl rfl rfl rfl rfl ⟨rfl, rfl, rfl, rfl, rfl⟩ rfl rfl rfl rfl rfl (by kernel_rfl) Tryd.func4 (by kernel_rfl)
    (of_decide_eq_true (by kernel_rfl)) (by unfold Func.isWrapper; first | (rw [if_pos (by decide +kernel)]; kernel_rfl) | (rw [if_neg (by decide +kernel)]; exact ⟨rfl, rfl⟩))
    (fun os started H enc _ => lifted os started H enc)

theorem proved : Rows.UnitReadsCardSaid :=
  Claim7.holds_tied_plain_at .later [] [.data, .data, .data, .data] true (true, "1b633bda8bd5cc42814936a045d4cd7344cebfa55c8212daf3cf61697b1a24c7") false
    over (fun _ h => by cases h) (by kernel_rfl) (fun _ h => by cases h) unitReads_row_tie rfl ⟨rfl, rfl⟩ (by kernel_rfl) rfl
    (fun f fn hf hfn => by
      obtain rfl : f = 4 := Option.some.inj ((show Tryd.prog.funcNamed "shapesearch/shapesearchlaw04.UnitReads" = some 4 by kernel_rfl).symm.trans hf) |>.symm
      obtain rfl : fn = Tryd.f4 := (Option.some.inj (Tryd.func4.symm.trans hfn)).symm
      exact ⟨by kernel_rfl, fun j t ht => by
        rw [Tryd.params4] at ht
        have hm : t ∈ [9, 26] := by simpa using Array.mem_of_getElem? ht
        have hall : ([9, 26].all fun u => !Tryd.prog.wantsStandIn u) = true := by kernel_rfl
        exact (show Tryd.prog.wantsStandIn t = false by simpa using List.all_eq_true.1 hall t hm)⟩)
    (by kernel_rfl)
end Go.Proofs.YtiomiohdeghpiaaDoor.unitReads
