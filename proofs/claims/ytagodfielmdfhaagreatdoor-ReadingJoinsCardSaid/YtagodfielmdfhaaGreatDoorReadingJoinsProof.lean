/- That the law ReadingJoins returns true for every input that can be read, and leaves its arguments as they were; the package variables that it lists start as the program lays them, which the card ties to the text; no further condition. -/
import Derived.Test.YtagodfielmdfhaaGreatDoorRows
import Derived.WalkKit
import Derived.ProofKit
import Derived.OpenShut
import Derived.LaidMore
import Derived.Stop.Joined
import Derived.SevenTiedAt
import Derived.Test.YtagodfielmdfhaaGreatDoorCards
import Derived.Test.YtagodfielmdfhaaGreatDoorTie
import Derived.Test.YtagodfielmdfhaaGreatDoorWords
import Derived.Test.YtagodfielmdfhaaGreatDoorSrcNew0
import Derived.Test.YtagodfielmdfhaaGreatDoorRtA
import Derived.ShutString
import Derived.ChangeOld
import Derived.Below
namespace Go.Proofs.YtagodfielmdfhaaGreatDoor.readingJoins
open Go.ChangeShapes Go.WideShapes Go.ChangeAt Go.RowKit Wo
open Go.ChangeMaps (open_string shut_string)
set_option linter.unusedVariables false

theorem own : ownKnob Tryz.prog.godebug = none := by kernel_rfl
theorem laidOut : laidOutB Tryz.prog = true := by kernel_rfl

/-- WHAT THE WALK IS TOLD OF A SLICE OF INTEGERS THAT CAME IN: it is nil; or it leads to a row of 'cap' cells, the numbers 'zs' (the first 'len' are its elements, the rest its spare room), each fitting its kind. -/
def IsRow (k : IntKind) (w : World) (a : Option Addr) (len cap : Nat) (zs : List Int) : Prop :=
  (a = none ∧ len = 0 ∧ cap = 0 ∧ zs = []) ∨
  ∃ x, a = some x ∧ len ≤ cap ∧ cap ≤ maxLen ∧ zs.length = cap ∧ (∀ i, i < zs.length → w.cell? (x.add i) = some (.int k (zs.getD i 0))) ∧ ∀ n ∈ zs, (Lit.int k n).wf = true

open Go.Proofs.YtagodfielmdfhaaGreatDoor.Rt Go.Proofs.YtagodfielmdfhaaGreatDoor.Un Go.Proofs.YtagodfielmdfhaaGreatDoor.Rg Go.Proofs.YtagodfielmdfhaaGreatDoor.Wi Go.Proofs.YtagodfielmdfhaaGreatDoor.Wo Go.Proofs.YtagodfielmdfhaaGreatDoor.Sr in
set_option maxHeartbeats 8000000 in
set_option maxRecDepth 100000 in
theorem walk (a0 : Option Addr) (len0 cap0 : Nat) (z0 : List Int) (a1 : Option Addr) (len1 cap1 : Nat) (z1 : List Int) (w : World) (hL : Rt.Lr w) (w0 : IsRow .i64 w a0 len0 cap0 z0) (w1 : IsRow .i64 w a1 len1 cap1 z1) :
    Calls Tryz.prog 4 #[.slice a0 len0 cap0, .slice a1 len1 cap1] w fun e w' => e = .returned (.bool true) ∧ Below w.heap.size w w' := by
  have HL := Lib.hid hL
  clear hL
  have AW : Hid (∀ W, Bel w W → Calls Tryz.prog 13 #[] W fun e w' => e = .returned (.bool true) ∧ Bel W w') := fun W hW => awake_any W (HL.out.bel hW).2
  have HPR : Hid (∀ (s : ByteArray) (l : List (Int × Int)) (k : Nat) (er : Int), s.size ≤ 16384 → run US2 (lns s.data.toList) 1 [] = (l, k, er) → ∀ (h : Nat) (W : World), Bel w W → Zu W h US2 → Calls Tryz.prog 10 #[.string s, .slice (some ⟨h, 0, none⟩) 2 2] W (Par l k er W)) := fun s l k er hs hr h W hW hZ => parse_is s hs hr h W hZ (HL.out.bel hW).2
  go_enter Tryz.func4, Tryz.ntmps4
  go_wp2_with fail
  go_at_call 7
  refine (new_any a0 len0 cap0 z0 w w0).mono ?_
  rintro e v1 ⟨g, rfl, hg, ho1, hb1⟩
  have HO1 := Lib.hid ho1
  have HB1 : Hid (Bel w v1) := hb1
  clear ho1 hb1
  go_wp2_with fail
  go_at_call 8
  refine (readings_new g 10 (by decide) _ HO1.out).mono ?_
  rintro e v2 ⟨v, k, l, rfl, hown, hl, hk, hv, ho2, hc2⟩
  have HB2 : Hid (Bel w v2) := Bel.ch HB1.out hc2 hg
  obtain ⟨A, ca, rfl, hz, hA, hca⟩ := own_zr2 hown hl
  have HZ := Lib.hid hz
  have HA := Lib.hid hA
  have HV := Lib.hid hv
  have HLN := Lib.hid (And.intro hl hk)
  have HW1 := Lib.hid (row_later HB2.out w1)
  clear hown hl hk hv ho2 hc2 hz hA w1
  go_wp2_with fail
  go_at_call 7
  refine (new_any a1 len1 cap1 z1 v2 HW1.out).mono ?_
  rintro e v3 ⟨g3, rfl, hg3, ho3, hb3⟩
  have HO3 := Lib.hid ho3
  have HB3 : Hid (Bel v2 v3) := hb3
  clear ho3 hb3
  go_wp2_with fail
  go_at_call 8
  refine (readings_new g3 10 (by decide) _ HO3.out).mono ?_
  rintro e v4 ⟨u4, k4, m, rfl, hown4, hl4, hk4, hv4, ho4, hc4⟩
  have HB4 : Hid (Bel v2 v4) := Bel.ch HB3.out hc4 hg3
  obtain ⟨A4, ca4, rfl, hz4, hA4, hca4⟩ := own_zr2 hown4 hl4
  have HZ4 := Lib.hid (HZ.out.bel HB4.out)
  have HY4 := Lib.hid hz4
  have HA4 := Lib.hid hA4
  have HV4 := Lib.hid hv4
  have HLM := Lib.hid (And.intro hl4 hk4)
  have HBW4 : Hid (Bel w v4) := HB2.out.tr HB4.out
  clear hown4 hl4 hk4 hv4 ho4 hc4 hz4 hA4
  obtain ⟨s, hs⟩ : ∃ s : ByteArray, (⟨(ft l).toArray⟩ : ByteArray) = s := ⟨_, rfl⟩
  obtain ⟨t, ht⟩ : ∃ s : ByteArray, (⟨(ft m).toArray⟩ : ByteArray) = s := ⟨_, rfl⟩
  have hsd : s.data.toList = ft l := by rw [← hs]
  have htd : t.data.toList = ft m := by rw [← ht]
  have hfl := ft_len l HV.out
  have hfm := ft_len m HV4.out
  have hsz : s.size ≤ 400 := by rw [Lib.size_eq, hsd]; have := HLN.out; omega
  have htz : t.size ≤ 400 := by rw [Lib.size_eq, htd]; have := HLM.out; omega
  have HF : Hid (∀ W, Bel v4 W → Calls Tryz.prog 9 #[.slice A k ca] W fun e w' => e = .returned (.tuple #[.string s, .int .i64 0]) ∧ Bel W w') := fun W hW => by
    rw [← hs]; exact format_ok A ca k l (by have := HLN.out; omega) HV.out W (HZ4.out.bel hW) (tab_bel HL.out (HBW4.out.tr hW))
  have HG : Hid (∀ W, Bel v4 W → Calls Tryz.prog 9 #[.slice A4 k4 ca4] W fun e w' => e = .returned (.tuple #[.string t, .int .i64 0]) ∧ Bel W w') := fun W hW => by
    rw [← ht]; exact format_ok A4 ca4 k4 m (by have := HLM.out; omega) HV4.out W (HY4.out.bel hW) (tab_bel HL.out (HBW4.out.tr hW))
  have HSD := Lib.hid (And.intro hsd htd)
  obtain ⟨ns, hns⟩ : ∃ k, s.size = k := ⟨_, rfl⟩
  obtain ⟨nt, hnt⟩ : ∃ k, t.size = k := ⟨_, rfl⟩
  rw [hns] at hsz
  rw [hnt] at htz
  clear hs ht hsd htd hfl hfm
  go_wp2_with fail
  go_at_call 9
  refine (HF.out _ Bel.rf).mono ?_
  rintro e v5 ⟨rfl, hb5⟩
  have HB5 := Lib.hid hb5
  clear hb5
  go_wp2_with fail
  go_at_call 9
  refine (HG.out _ HB5.out).mono ?_
  rintro e v6 ⟨rfl, hb6⟩
  have HB6 : Hid (Bel v4 v6) := HB5.out.tr hb6
  clear hb6
  go_wp2_with fail
  go_at_call 11
  refine (units_ok _).mono ?_
  rintro e v7 ⟨h7, rfl, hZ7, hb7⟩
  have HB7 : Hid (Bel v4 v7) := HB6.out.tr hb7
  have P1 := Lib.hid (HPR.out (s ++ t) (l ++ m) 0 0 (by rw [ByteArray.size_append, hns, hnt]; omega) (by rw [ByteArray.data_append, Array.toList_append, HSD.out.1, HSD.out.2]; exact run_two HV.out HV4.out (by have := HLN.out; have := HLM.out; omega)) h7 v7 (HBW4.out.tr HB7.out) hZ7)
  clear hb7 hZ7
  go_wp2_with fail
  go_at_call 10
  refine P1.out.mono ?_
  rintro e v8 ⟨u8, rfl, hown8, hb8⟩
  have HB8 : Hid (Bel v4 v8) := HB7.out.tr hb8
  have hlm : (l ++ m).length = k + k4 := by rw [List.length_append, HLN.out.1, HLM.out.1]
  rw [hlm] at hown8
  obtain ⟨A8, c8, rfl, hz8⟩ := own_zr hown8 hlm
  have HX8 := Lib.hid hz8
  have HZ8 := Lib.hid (HZ4.out.bel HB8.out)
  have HY8 := Lib.hid (HY4.out.bel HB8.out)
  have kb : k ≤ 10 := HLN.out.2
  have kb4 : k4 ≤ 10 := HLM.out.2
  have HE := Lib.hid (own_empty v8 v8.heap.size (Nat.le_refl _))
  clear hown8 hb8 hz8
  have kb2 : 0 + k + k4 = k + k4 := by omega
  go_wp2_with (at_builtin; first
    | (refine list_appx _ (.tmp 51) (.tmp 52) rfl v8.heap.size _ 0 [] (by rfl) rfl HE.out A k ca l rfl (HZ8.out.bel (Bel.rf.al _)) HA.out (by omega) (by simp) ?_; intro u9 w9 h9 hg9; have hb9 := Lib.hid (grown_bel (Bel.rf.al _) hg9 HE.out (Nat.le_refl v8.heap.size)))
    | (refine list_appx _ (.tmp 53) (.tmp 54) rfl v8.heap.size u9 (0 + k) ([] ++ l) (by rfl) rfl h9 A4 k4 ca4 m rfl (HY8.out.bel hb9.out) HA4.out (by omega) hb9.out.size ?_; intro u10 w10 h10 hg10; have hb10 := Lib.hid (grown_bel hb9.out hg10 h9 (Nat.le_refl v8.heap.size)); rw [kb2] at h10; obtain ⟨A10, c10, rfl, hz10⟩ := own_zr h10 hlm; have HT10 := Lib.hid hz10; clear h9 hg9 h10 hg10 hz10))
  go_at_call 12
  refine (same_true A8 A10 c8 c10 (k + k4) (l ++ m) (by omega) _ (HX8.out.bel hb10.out) HT10.out).mono ?_
  rintro e w11 ⟨rfl, hb11⟩
  have HB11 : Hid (Bel w w11) := HBW4.out.tr (HB8.out.tr (hb10.out.tr hb11))
  go_wp2_with fail
  go_at_call 13
  refine (AW.out _ HB11.out).mono ?_
  rintro e w12 ⟨rfl, hb12⟩
  go_wp2
  go_ret
  exact ⟨rfl, (HB11.out.tr hb12).bl⟩

noncomputable def pinWorld (os : Os) : World := { World.doorLaid Tryz.prog 400 os with heap := (World.doorLaid Tryz.prog 400 os).heap.setIfInBounds 7 (.cells (Go.Pinned.utf8FirstZ.map fun (n : Nat) => Value.int .u8 (n : Int)).toArray 151 (0, 0)) }
theorem door_met (os : Os) (args : Array Value) : laidMetH Tryz.prog [("math/bits.deBruijn32tab", Rows.laid_math_bits_deBruijn32tab), ("math/bits.deBruijn64tab", Rows.laid_math_bits_deBruijn64tab), ("internal/strconv.uint64pow10", Rows.laid_internal_strconv_uint64pow10), ("unicode/utf8.acceptRanges", Rows.laid_unicode_utf8_acceptRanges), ("strconv.ErrRange", Rows.laid_strconv_ErrRange), ("strconv.ErrSyntax", Rows.laid_strconv_ErrSyntax), ("shapesearch/unit.powers", Rows.laid_shapesearch_unit_powers), ("unicode/utf8.first", Rows.laid_unicode_utf8_first)] ((pinWorld os).forCall (fun _ _ => 0) ⟨#[], args, []⟩).memory :=
  laidMetH_of_parts3 (fuel := 8) (laidMet_of_run' 8 (by kernel_rfl) (by kernel_rfl)) (by kernel_rfl) (by kernel_rfl)
set_option maxRecDepth 100000 in
theorem lifted (os : Os) (started : os.Started) (H : Type) (enc : TypeId × Value → H) :
    ReturnsInHanded {} Tryz.checked os 4 .any (fun w args => (Rows.readingJoinsSpec.pre enc Tryz.prog Tryz.f4 [] false w args ∧ laidMetH Tryz.prog [("math/bits.deBruijn32tab", Rows.laid_math_bits_deBruijn32tab), ("math/bits.deBruijn64tab", Rows.laid_math_bits_deBruijn64tab), ("internal/strconv.uint64pow10", Rows.laid_internal_strconv_uint64pow10), ("unicode/utf8.acceptRanges", Rows.laid_unicode_utf8_acceptRanges), ("strconv.ErrRange", Rows.laid_strconv_ErrRange), ("strconv.ErrSyntax", Rows.laid_strconv_ErrSyntax), ("shapesearch/unit.powers", Rows.laid_shapesearch_unit_powers), ("unicode/utf8.first", Rows.laid_unicode_utf8_first)] w) ∧ sizedMet enc Tryz.prog Tryz.f4 (OpenSpec.ofChange Rows.readingJoinsSpec) false w args)
      (Rows.readingJoinsSpec.post enc Tryz.prog Tryz.f4 false true false false) := by
  refine returnsInHanded_of_change_and (C := Tryz.checked) (X := fun w _ => laidMetH Tryz.prog [("math/bits.deBruijn32tab", Rows.laid_math_bits_deBruijn32tab), ("math/bits.deBruijn64tab", Rows.laid_math_bits_deBruijn64tab), ("internal/strconv.uint64pow10", Rows.laid_internal_strconv_uint64pow10), ("unicode/utf8.acceptRanges", Rows.laid_unicode_utf8_acceptRanges), ("strconv.ErrRange", Rows.laid_strconv_ErrRange), ("strconv.ErrSyntax", Rows.laid_strconv_ErrSyntax), ("shapesearch/unit.powers", Rows.laid_shapesearch_unit_powers), ("unicode/utf8.first", Rows.laid_unicode_utf8_first)] w) (fun _ _ _ hh h => h.of_heap hh) own started (by kernel_rfl) Tryz.func4
    (ChangeSpec.witness_shaped (enc := enc) (C := Tryz.checked) (os := os) (X := fun w _ => laidMetH Tryz.prog [("math/bits.deBruijn32tab", Rows.laid_math_bits_deBruijn32tab), ("math/bits.deBruijn64tab", Rows.laid_math_bits_deBruijn64tab), ("internal/strconv.uint64pow10", Rows.laid_internal_strconv_uint64pow10), ("unicode/utf8.acceptRanges", Rows.laid_unicode_utf8_acceptRanges), ("strconv.ErrRange", Rows.laid_strconv_ErrRange), ("strconv.ErrSyntax", Rows.laid_strconv_ErrSyntax), ("shapesearch/unit.powers", Rows.laid_shapesearch_unit_powers), ("unicode/utf8.first", Rows.laid_unicode_utf8_first)] w) false (pinWorld os) #[.slice none 0 0, .slice none 0 0] 8 rfl (World.shaped_of_RefB (by kernel_rfl) (by kernel_rfl)) (by kernel_rfl) (by kernel_rfl) (by kernel_rfl) (door_met os _)) ?_
  intro W base args ds gs before hval0 hW _ _ hL hsz
  have hval : ∀ (j : Nat) t v, Tryz.f4.params[j]? = some t → args[j]? = some v → Value.okWide Tryz.prog W .any base t v := hval0
  have hW' := hW
  obtain ⟨p, q, hA0, hV, rfl, hfz, hnd⟩ := hW
  have hA : DataW.TrodAll enc Tryz.prog W 0 (fun _ => true) true Tryz.f4.params.toList args.toList ds p := hA0
  rw [Tryz.params4] at hA hval
  obtain ⟨v0, vs0, d0, ds0, p0, q0, hargs, rfl, rfl, h0, r0⟩ := trodAll_cons hA
  obtain ⟨v1, vs1, d1, ds1, p1, q1, rfl, rfl, rfl, h1, r1⟩ := trodAll_cons r0
  obtain ⟨rfl, rfl, rfl⟩ := trodAll_nil r1
  obtain rfl : args = #[v0, v1] := by cases args; simp_all
  obtain ⟨rfl, rfl⟩ := trodVars_none hV
  obtain ⟨a0, len0, cap0, rfl⟩ := okWide_slice Tryz.underlying22 (hval 0 22 v0 rfl rfl)
  have k0 := h0
  have lt0 : ∀ x ∈ p0, x.block < W.heap.size := by obtain ⟨m, hm⟩ := k0; exact DataW.trod_lt m _ _ _ hm
  obtain ⟨z0, w0⟩ : ∃ zs, IsRow .i64 W a0 len0 cap0 zs := by
    obtain ⟨fuel, hf⟩ := h0
    rcases open_ints Tryz.underlying22 Tryz.underlying3 (by kernel_rfl) hf with ⟨hcs, _⟩ | ⟨x, l, c, zs, hcs, _, hl, hm, hz, _, hcell, hwz⟩
    · simp [Value.cells] at hcs
      obtain ⟨rfl, rfl, rfl⟩ := hcs
      exact ⟨[], .inl ⟨rfl, rfl, rfl, rfl⟩⟩
    · simp [Value.cells] at hcs
      obtain ⟨rfl, rfl, rfl⟩ := hcs
      exact ⟨zs, .inr ⟨_, rfl, hl, hm, by simpa using hz, hcell, hwz⟩⟩
  obtain ⟨a1, len1, cap1, rfl⟩ := okWide_slice Tryz.underlying22 (hval 1 22 v1 rfl rfl)
  have k1 := h1
  have lt1 : ∀ x ∈ p1, x.block < W.heap.size := by obtain ⟨m, hm⟩ := k1; exact DataW.trod_lt m _ _ _ hm
  obtain ⟨z1, w1⟩ : ∃ zs, IsRow .i64 W a1 len1 cap1 zs := by
    obtain ⟨fuel, hf⟩ := h1
    rcases open_ints Tryz.underlying22 Tryz.underlying3 (by kernel_rfl) hf with ⟨hcs, _⟩ | ⟨x, l, c, zs, hcs, _, hl, hm, hz, _, hcell, hwz⟩
    · simp [Value.cells] at hcs
      obtain ⟨rfl, rfl, rfl⟩ := hcs
      exact ⟨[], .inl ⟨rfl, rfl, rfl, rfl⟩⟩
    · simp [Value.cells] at hcs
      obtain ⟨rfl, rfl, rfl⟩ := hcs
      exact ⟨zs, .inr ⟨_, rfl, hl, hm, by simpa using hz, hcell, hwz⟩⟩
  clear hA0 hval0
  refine (walk a0 len0 cap0 z0 a1 len1 cap1 z1 W (Rt.lr_of hL) w0 w1).mono fun e W' ⟨he, bel⟩ => ?_
  subst he
  exact ⟨_, rfl, _, _, _, [], _, [], hW', trodAll_mk1 (shut_bool Tryz.underlying4 _), (trodAll_cons_mk (Below.trod laidOut (by kernel_rfl) (of_decide_eq_true (by kernel_rfl)) k0 bel lt0) (trodAll_cons_mk (Below.trod laidOut (by kernel_rfl) (of_decide_eq_true (by kernel_rfl)) k1 bel lt1) trodAll_mk0)), rfl, bel.frame _, fun h => by cases h⟩

theorem over : Rows.readingJoinsRow.holds Tryz.pinned (OpenSpec.ofChange Rows.readingJoinsSpec) :=
  OpenClaim.holds_of_wide 4 Tryz.f4 rfl rfl rfl rfl rfl rfl rfl ⟨rfl, rfl, rfl, rfl, rfl⟩ rfl rfl rfl rfl rfl (by kernel_rfl) Tryz.func4 (by kernel_rfl)
    (of_decide_eq_true (by kernel_rfl)) (by unfold Func.isWrapper; first | (rw [if_pos (by decide +kernel)]; kernel_rfl) | (rw [if_neg (by decide +kernel)]; exact ⟨rfl, rfl⟩))
    (fun os started H enc _ => lifted os started H enc)

theorem proved : Rows.ReadingJoinsCardSaid :=
  Claim7.holds_tied_plain_at .later [] [.data, .data, .data, .data, .sentinel, .sentinel, .data, .pinned] true (true, "ecab7dfc50cb52a01df084e48d9f02ccfa130385241eeededfdb83243de06351") true
    over (fun _ h => by cases h) (by kernel_rfl) (fun _ h => by cases h) readingJoins_row_tie rfl ⟨rfl, rfl⟩ (by kernel_rfl) rfl
    (fun f fn hf hfn => by
      obtain rfl : f = 4 := Option.some.inj ((show Tryz.prog.funcNamed "shapesearch/shapesearchlaw05.ReadingJoins" = some 4 by kernel_rfl).symm.trans hf) |>.symm
      obtain rfl : fn = Tryz.f4 := (Option.some.inj (Tryz.func4.symm.trans hfn)).symm
      exact ⟨by kernel_rfl, fun j t ht => by
        rw [Tryz.params4] at ht
        have hm : t ∈ [22] := by simpa using Array.mem_of_getElem? ht
        have hall : ([22].all fun u => !Tryz.prog.wantsStandIn u) = true := by kernel_rfl
        exact (show Tryz.prog.wantsStandIn t = false by simpa using List.all_eq_true.1 hall t hm)⟩)
    (by kernel_rfl)
end Go.Proofs.YtagodfielmdfhaaGreatDoor.readingJoins
