/- That the law ReadingBack returns true for every input that can be read, and leaves its arguments as they were; the package variables that it lists start as the program lays them, which the card ties to the text; no further condition. -/
import Derived.Test.YtagodfielmdfhaaGreatDoorRows
import Derived.WalkKit
import Derived.ProofKit
import Derived.OpenShut
import Derived.LaidMore
import Derived.Stop.Joined
import Derived.SevenTiedAt
import Derived.Test.YtagodfielmdfhaaGreatDoorCards
import Derived.Test.YtagodfielmdfhaaGreatDoorTie
import Derived.Test.YtagodfielmdfhaaGreatDoorWords
import Derived.Test.YtagodfielmdfhaaGreatDoorSrcNew0
import Derived.Test.YtagodfielmdfhaaGreatDoorRtW
import Derived.ShutString
import Derived.ChangeOld
import Derived.Below
namespace Go.Proofs.YtagodfielmdfhaaGreatDoor.readingBack
open Go.ChangeShapes Go.WideShapes Go.ChangeAt Go.RowKit Wo
open Go.ChangeMaps (open_string shut_string)
set_option linter.unusedVariables false

theorem own : ownKnob Tryz.prog.godebug = none := by kernel_rfl
theorem laidOut : laidOutB Tryz.prog = true := by kernel_rfl

/-- WHAT THE WALK IS TOLD OF A SLICE OF INTEGERS THAT CAME IN: it is nil; or it leads to a row of 'cap' cells, the numbers 'zs' (the first 'len' are its elements, the rest its spare room), each fitting its kind. -/
def IsRow (k : IntKind) (w : World) (a : Option Addr) (len cap : Nat) (zs : List Int) : Prop :=
  (a = none ∧ len = 0 ∧ cap = 0 ∧ zs = []) ∨
  ∃ x, a = some x ∧ len ≤ cap ∧ cap ≤ maxLen ∧ zs.length = cap ∧ (∀ i, i < zs.length → w.cell? (x.add i) = some (.int k (zs.getD i 0))) ∧ ∀ n ∈ zs, (Lit.int k n).wf = true

open Go.Proofs.YtagodfielmdfhaaGreatDoor.Rt Go.Proofs.YtagodfielmdfhaaGreatDoor.Un Go.Proofs.YtagodfielmdfhaaGreatDoor.Rg Go.Proofs.YtagodfielmdfhaaGreatDoor.Wi Go.Proofs.YtagodfielmdfhaaGreatDoor.Wo Go.Proofs.YtagodfielmdfhaaGreatDoor.Sr in
set_option maxHeartbeats 8000000 in
set_option maxRecDepth 100000 in
theorem walk (a0 : Option Addr) (len0 cap0 : Nat) (z0 : List Int) (a1 : Int) (w : World) (hL : Rt.Lr w) (w0 : IsRow .i64 w a0 len0 cap0 z0) (w1 : (Lit.int .i64 a1).wf = true) :
    Calls Tryz.prog 3 #[.slice a0 len0 cap0, .int .i64 a1] w fun e w' => e = .returned (.bool true) ∧ Below w.heap.size w w' := by
  have HL := Lib.hid hL
  clear hL
  have AW : Hid (∀ W, Bel w W → Calls Tryz.prog 13 #[] W fun e w' => e = .returned (.bool true) ∧ Bel W w') := fun W hW => awake_any W (HL.out.bel hW).2
  have HPR : Hid (∀ (s : ByteArray) (l : List (Int × Int)) (k : Nat) (er : Int), s.size ≤ 16384 → run US2 (lns s.data.toList) 1 [] = (l, k, er) → ∀ (h : Nat) (W : World), Bel w W → Zu W h US2 → Calls Tryz.prog 10 #[.string s, .slice (some ⟨h, 0, none⟩) 2 2] W (Par l k er W)) := fun s l k er hs hr h W hW hZ => parse_is s hs hr h W hZ (HL.out.bel hW).2
  go_enter Tryz.func3, Tryz.ntmps3
  go_wp2_with fail
  go_at_call 7
  refine (new_any a0 len0 cap0 z0 w w0).mono ?_
  rintro e v1 ⟨g, rfl, hg, ho1, hb1⟩
  have HO1 := Lib.hid ho1
  have HB1 : Hid (Bel w v1) := hb1
  clear ho1 hb1
  go_wp2_with fail
  go_at_call 8
  refine (readings_new g 20 (by decide) _ HO1.out).mono ?_
  rintro e v2 ⟨v, k, l, rfl, hown, hl, hk, hv, ho2, hc2⟩
  have HB2 : Hid (Bel w v2) := Bel.ch HB1.out hc2 hg
  obtain ⟨A, ca, rfl, hz⟩ := own_zr hown hl
  have HZ := Lib.hid hz
  have HV := Lib.hid hv
  have HLN := Lib.hid hl
  obtain ⟨s, hs⟩ : ∃ s : ByteArray, (⟨(ft l).toArray⟩ : ByteArray) = s := ⟨_, rfl⟩
  have hsd : s.data.toList = ft l := by rw [← hs]
  have hfl := ft_len l hv
  have hsz : s.size ≤ 800 := by rw [Lib.size_eq, hsd]; omega
  have HF : Hid (Calls Tryz.prog 9 #[.slice A k ca] v2 fun e w' => e = .returned (.tuple #[.string s, .int .i64 0]) ∧ Bel v2 w') := by
    rw [← hs]; exact format_ok A ca k l (by omega) hv v2 hz (HL.out.bel HB2.out).1
  have HSD := Lib.hid hsd
  have HKK := Lib.hid hk
  clear hown hl hv ho2 hc2 hz hfl hs hsd
  go_wp2_with fail
  go_at_call 9
  refine HF.out.mono ?_
  rintro e v3 ⟨rfl, hb3⟩
  have HB3 : Hid (Bel w v3) := HB2.out.tr hb3
  have HZ3 := Lib.hid (HZ.out.bel hb3)
  clear hb3
  go_wp2_with fail
  go_at_call 11
  refine (units_ok _).mono ?_
  rintro e v4 ⟨h4, rfl, hZ4, hb4⟩
  have HB4 : Hid (Bel w v4) := HB3.out.tr hb4
  have HZ4 := Lib.hid (HZ3.out.bel hb4)
  have P1 := Lib.hid (HPR.out s l 0 0 (by omega) (by rw [HSD.out]; exact run_back HV.out (by have := HLN.out; have := HKK.out; omega)) h4 v4 HB4.out hZ4)
  clear hb4 hZ4
  go_wp2_with fail
  go_at_call 10
  refine P1.out.mono ?_
  rintro e v5 ⟨u5, rfl, hown5, hb5⟩
  have HB5 : Hid (Bel w v5) := HB4.out.tr hb5
  have HZ5 := Lib.hid (HZ4.out.bel hb5)
  rw [HLN.out] at hown5
  obtain ⟨A5, c5, rfl, hz5⟩ := own_zr hown5 HLN.out
  have HY := Lib.hid hz5
  clear hown5 hb5 hz5
  go_wp2_with fail
  go_at_call 12
  refine (same_true A A5 ca c5 k l (by have := HKK.out; omega) _ HZ5.out HY.out).mono ?_
  rintro e v6 ⟨rfl, hb6⟩
  have HB6 : Hid (Bel w v6) := HB5.out.tr hb6
  have HZ6 := Lib.hid (HZ5.out.bel hb6)
  clear hb6
  rcases Nat.eq_zero_or_pos k with h0 | h0
  · subst h0
    have hl0 : l = [] := List.length_eq_zero_iff.1 HLN.out
    have e0 : s.toList = [] := by rw [Lib.toList_data, HSD.out, hl0]; rfl
    have e1 : s.toList.isEmpty = true := by rw [e0]; rfl
    clear hl0
    go_wp2_with fail
    go_at_call 13
    refine (AW.out _ HB6.out).mono ?_
    rintro e v7 ⟨rfl, hb7⟩
    go_wp2
    go_ret
    exact ⟨rfl, (HB6.out.tr hb7).bl⟩
  · have hne : l ≠ [] := fun e => by have := HLN.out; rw [e] at this; simp at this; omega
    obtain ⟨n, hn⟩ : ∃ n, s.size = n := ⟨_, rfl⟩
    have n1 : 1 ≤ n := by
      rw [← hn, Lib.size_eq, HSD.out]
      rcases l with _ | ⟨p, l⟩
      · exact absurd rfl hne
      · rw [ft_cons]; simp; omega
    obtain ⟨n', hn'⟩ : ∃ n', n = n' + 1 := ⟨n - 1, by omega⟩
    subst hn'
    obtain ⟨sc, hsc⟩ : ∃ sc : ByteArray, s.extract 0 n' = sc := ⟨_, rfl⟩
    have hscd : sc.data.toList = (ft l).take ((ft l).length - 1) := by
      have e : (ft l).length = n' + 1 := by rw [← HSD.out, ← Lib.size_eq]; exact hn
      rw [← hsc, Lib.extract_data, HSD.out, e]
      simp
    have hscs : sc.size ≤ 800 := by
      rw [Lib.size_eq, hscd, List.length_take, ← HSD.out, ← Lib.size_eq]; omega
    have P2 : Hid (∀ (h : Nat) (W : World), Bel v6 W → Zu W h US2 → _) := fun h W hW hZ => HPR.out sc l 0 0 (by omega) (by rw [hscd]; exact run_cut HV.out (by have := HLN.out; have := HKK.out; omega) hne) h W (HB6.out.tr hW) hZ
    have KS : Hid (∀ W', Bel v6 W' → ((fun w' => w'.cell? ⟨0, 0, none⟩ = some (.int .i64 1)) W')) := fun W' h => (HL.out.bel (HB6.out.tr h)).2 0 (by decide)
    have kp0 := (HL.out.bel HB6.out).2 0 (by decide)
    have b0 : (0 : Int) ≤ (n' : Int) := by omega
    have b1 : IntKind.i64.wrap ((s.size : Int) - 1) = (n' : Int) := by rw [IntWalk.i64_in _ (by omega)]; omega
    have b2 : (n' : Int) ≤ (s.size : Int) := by omega
    have b3 : n' ≤ s.size := by omega
    have HNN := Lib.hid hn
    clear hn
    have ki : ((k : Int) == 0) = false := by simp; omega
    have ki2 : ¬ (k : Int) = 0 := by omega
    have kn : ¬ k = 0 := by omega
    clear hscd hne
    go_wp2_with fail
    go_region_held3 (fun w' => w'.cell? ⟨0, 0, none⟩ = some (.int .i64 1))
      (exact KS.out _ (by repeat (first | exact Bel.rf | (with_reducible refine Bel.drwN ?_ _) | (with_reducible refine Bel.drw ?_) | refine Bel.tr ?_ (by assumption))))
      ((first
        | (go_at_call 11; refine (units_ok _).mono ?_; rintro r s1 ⟨h9, rfl, hz9, hb9⟩)
        | (go_at_call 10; (refine (P2.out h9 _ (by repeat (first | exact Bel.rf | (with_reducible refine Bel.drwN ?_ _) | (with_reducible refine Bel.drw ?_) | refine Bel.tr ?_ (by assumption))) (hz9.bel (by repeat (first | exact Bel.rf | (with_reducible refine Bel.drwN ?_ _) | (with_reducible refine Bel.drw ?_) | refine Bel.tr ?_ (by assumption))))).mono ?_); rintro r s2 ⟨u10, rfl, hown10, hb10⟩)))
    all_goals
      have HB10 : Hid (Bel w s2) := HB6.out.tr (by repeat (first | exact Bel.rf | (with_reducible refine Bel.drwN ?_ _) | (with_reducible refine Bel.drw ?_) | (with_reducible refine Bel.tr ?_ hb10) | (with_reducible refine Bel.tr ?_ hb9)))
      have HZ10 := Lib.hid (HZ6.out.bel (w' := s2) (by repeat (first | exact Bel.rf | (with_reducible refine Bel.drwN ?_ _) | (with_reducible refine Bel.drw ?_) | (with_reducible refine Bel.tr ?_ hb10) | (with_reducible refine Bel.tr ?_ hb9))))
      rw [HLN.out] at hown10
      obtain ⟨A10, c10, rfl, hz10⟩ := own_zr hown10 HLN.out
      have HY10 := Lib.hid hz10
      clear hown10 hz10 hz9 hb9 hb10
      go_wp2_with fail
      go_at_call 11
      refine (units_ok _).mono ?_
      rintro e v11 ⟨h11, rfl, hZ11, hb11⟩
      have HB11 := Lib.hid (HB10.out.tr hb11)
      have HZ11 := Lib.hid (HZ10.out.bel hb11)
      have HY11 := Lib.hid (HY10.out.bel hb11)
      have P3 := Lib.hid (HPR.out (⟨#[10, 35, 32, 49, 32, 50, 32, 114, 97, 119, 10]⟩ ++ s ++ ⟨#[35]⟩) l 0 0 (by simp only [ByteArray.size_append]; show 11 + s.size + 1 ≤ _; omega) (by
        rw [ByteArray.data_append, Array.toList_append, ByteArray.data_append, Array.toList_append, HSD.out]
        exact run_deco HV.out (by have := HLN.out; have := HKK.out; omega)) h11 v11 HB11.out hZ11)
      clear hb11 hZ11
      go_wp2_with fail
      go_at_call 10
      refine P3.out.mono ?_
      rintro e v12 ⟨u12, rfl, hown12, hb12⟩
      have HB12 := Lib.hid (HB11.out.tr hb12)
      have HZ12 := Lib.hid (HZ11.out.bel hb12)
      have HY12 := Lib.hid (HY11.out.bel hb12)
      rw [HLN.out] at hown12
      obtain ⟨A12, c12, rfl, hz12⟩ := own_zr hown12 HLN.out
      have HX12 := Lib.hid hz12
      clear hown12 hb12 hz12
      go_wp2_with fail
      go_at_call 12
      refine (same_true A A10 ca c10 k l (by have := HKK.out; omega) _ HZ12.out HY12.out).mono ?_
      rintro e v13 ⟨rfl, hb13⟩
      have HB13 := Lib.hid (HB12.out.tr hb13)
      have HZ13 := Lib.hid (HZ12.out.bel hb13)
      have HX13 := Lib.hid (HX12.out.bel hb13)
      clear hb13
      go_wp2_with fail
      go_at_call 12
      refine (same_true A A12 ca c12 k l (by have := HKK.out; omega) _ HZ13.out HX13.out).mono ?_
      rintro e v14 ⟨rfl, hb14⟩
      have HB14 := Lib.hid (HB13.out.tr hb14)
      clear hb14
      go_wp2_with fail
      go_at_call 13
      refine (AW.out _ HB14.out).mono ?_
      rintro e v15 ⟨rfl, hb15⟩
      go_wp2
      go_ret
      exact ⟨rfl, (HB14.out.tr hb15).bl⟩

noncomputable def pinWorld (os : Os) : World := { World.doorLaid Tryz.prog 400 os with heap := (World.doorLaid Tryz.prog 400 os).heap.setIfInBounds 7 (.cells (Go.Pinned.utf8FirstZ.map fun (n : Nat) => Value.int .u8 (n : Int)).toArray 151 (0, 0)) }
theorem door_met (os : Os) (args : Array Value) : laidMetH Tryz.prog [("math/bits.deBruijn32tab", Rows.laid_math_bits_deBruijn32tab), ("math/bits.deBruijn64tab", Rows.laid_math_bits_deBruijn64tab), ("internal/strconv.uint64pow10", Rows.laid_internal_strconv_uint64pow10), ("unicode/utf8.acceptRanges", Rows.laid_unicode_utf8_acceptRanges), ("strconv.ErrRange", Rows.laid_strconv_ErrRange), ("strconv.ErrSyntax", Rows.laid_strconv_ErrSyntax), ("shapesearch/unit.powers", Rows.laid_shapesearch_unit_powers), ("unicode/utf8.first", Rows.laid_unicode_utf8_first)] ((pinWorld os).forCall (fun _ _ => 0) ⟨#[], args, []⟩).memory :=
  laidMetH_of_parts3 (fuel := 8) (laidMet_of_run' 8 (by kernel_rfl) (by kernel_rfl)) (by kernel_rfl) (by kernel_rfl)
set_option maxRecDepth 100000 in
theorem lifted (os : Os) (started : os.Started) (H : Type) (enc : TypeId × Value → H) :
    ReturnsInHanded {} Tryz.checked os 3 .any (fun w args => (Rows.readingBackSpec.pre enc Tryz.prog Tryz.f3 [] false w args ∧ laidMetH Tryz.prog [("math/bits.deBruijn32tab", Rows.laid_math_bits_deBruijn32tab), ("math/bits.deBruijn64tab", Rows.laid_math_bits_deBruijn64tab), ("internal/strconv.uint64pow10", Rows.laid_internal_strconv_uint64pow10), ("unicode/utf8.acceptRanges", Rows.laid_unicode_utf8_acceptRanges), ("strconv.ErrRange", Rows.laid_strconv_ErrRange), ("strconv.ErrSyntax", Rows.laid_strconv_ErrSyntax), ("shapesearch/unit.powers", Rows.laid_shapesearch_unit_powers), ("unicode/utf8.first", Rows.laid_unicode_utf8_first)] w) ∧ sizedMet enc Tryz.prog Tryz.f3 (OpenSpec.ofChange Rows.readingBackSpec) false w args)
      (Rows.readingBackSpec.post enc Tryz.prog Tryz.f3 false true false false) := by
  refine returnsInHanded_of_change_and (C := Tryz.checked) (X := fun w _ => laidMetH Tryz.prog [("math/bits.deBruijn32tab", Rows.laid_math_bits_deBruijn32tab), ("math/bits.deBruijn64tab", Rows.laid_math_bits_deBruijn64tab), ("internal/strconv.uint64pow10", Rows.laid_internal_strconv_uint64pow10), ("unicode/utf8.acceptRanges", Rows.laid_unicode_utf8_acceptRanges), ("strconv.ErrRange", Rows.laid_strconv_ErrRange), ("strconv.ErrSyntax", Rows.laid_strconv_ErrSyntax), ("shapesearch/unit.powers", Rows.laid_shapesearch_unit_powers), ("unicode/utf8.first", Rows.laid_unicode_utf8_first)] w) (fun _ _ _ hh h => h.of_heap hh) own started (by kernel_rfl) Tryz.func3
    (ChangeSpec.witness_shaped (enc := enc) (C := Tryz.checked) (os := os) (X := fun w _ => laidMetH Tryz.prog [("math/bits.deBruijn32tab", Rows.laid_math_bits_deBruijn32tab), ("math/bits.deBruijn64tab", Rows.laid_math_bits_deBruijn64tab), ("internal/strconv.uint64pow10", Rows.laid_internal_strconv_uint64pow10), ("unicode/utf8.acceptRanges", Rows.laid_unicode_utf8_acceptRanges), ("strconv.ErrRange", Rows.laid_strconv_ErrRange), ("strconv.ErrSyntax", Rows.laid_strconv_ErrSyntax), ("shapesearch/unit.powers", Rows.laid_shapesearch_unit_powers), ("unicode/utf8.first", Rows.laid_unicode_utf8_first)] w) false (pinWorld os) #[.slice none 0 0, .int .i64 0] 8 rfl (World.shaped_of_RefB (by kernel_rfl) (by kernel_rfl)) (by kernel_rfl) (by kernel_rfl) (by kernel_rfl) (door_met os _)) ?_
  intro W base args ds gs before hval0 hW _ _ hL hsz
  have hval : ∀ (j : Nat) t v, Tryz.f3.params[j]? = some t → args[j]? = some v → Value.okWide Tryz.prog W .any base t v := hval0
  have hW' := hW
  obtain ⟨p, q, hA0, hV, rfl, hfz, hnd⟩ := hW
  have hA : DataW.TrodAll enc Tryz.prog W 0 (fun _ => true) true Tryz.f3.params.toList args.toList ds p := hA0
  rw [Tryz.params3] at hA hval
  obtain ⟨v0, vs0, d0, ds0, p0, q0, hargs, rfl, rfl, h0, r0⟩ := trodAll_cons hA
  obtain ⟨v1, vs1, d1, ds1, p1, q1, rfl, rfl, rfl, h1, r1⟩ := trodAll_cons r0
  obtain ⟨rfl, rfl, rfl⟩ := trodAll_nil r1
  obtain rfl : args = #[v0, v1] := by cases args; simp_all
  obtain ⟨rfl, rfl⟩ := trodVars_none hV
  obtain ⟨a0, len0, cap0, rfl⟩ := okWide_slice Tryz.underlying22 (hval 0 22 v0 rfl rfl)
  have k0 := h0
  have lt0 : ∀ x ∈ p0, x.block < W.heap.size := by obtain ⟨m, hm⟩ := k0; exact DataW.trod_lt m _ _ _ hm
  obtain ⟨z0, w0⟩ : ∃ zs, IsRow .i64 W a0 len0 cap0 zs := by
    obtain ⟨fuel, hf⟩ := h0
    rcases open_ints Tryz.underlying22 Tryz.underlying3 (by kernel_rfl) hf with ⟨hcs, _⟩ | ⟨x, l, c, zs, hcs, _, hl, hm, hz, _, hcell, hwz⟩
    · simp [Value.cells] at hcs
      obtain ⟨rfl, rfl, rfl⟩ := hcs
      exact ⟨[], .inl ⟨rfl, rfl, rfl, rfl⟩⟩
    · simp [Value.cells] at hcs
      obtain ⟨rfl, rfl, rfl⟩ := hcs
      exact ⟨zs, .inr ⟨_, rfl, hl, hm, by simpa using hz, hcell, hwz⟩⟩
  obtain ⟨a1, rfl, rfl, rfl, w1⟩ := open_int Tryz.underlying3 (hval 1 3 v1 rfl rfl) h1
  clear hA0 hval0
  refine (walk a0 len0 cap0 z0 a1 W (Rt.lr_of hL) w0 w1).mono fun e W' ⟨he, bel⟩ => ?_
  subst he
  exact ⟨_, rfl, _, _, _, [], _, [], hW', trodAll_mk1 (shut_bool Tryz.underlying4 _), (trodAll_cons_mk (Below.trod laidOut (by kernel_rfl) (of_decide_eq_true (by kernel_rfl)) k0 bel lt0) (trodAll_cons_mk (shut_int Tryz.underlying3 w1) trodAll_mk0)), rfl, bel.frame _, fun h => by cases h⟩

theorem over : Rows.readingBackRow.holds Tryz.pinned (OpenSpec.ofChange Rows.readingBackSpec) :=
  OpenClaim.holds_of_wide 3 Tryz.f3 rfl rfl rfl rfl rfl rfl rfl ⟨rfl, rfl, rfl, rfl, rfl⟩ rfl rfl rfl rfl rfl (by kernel_rfl) Tryz.func3 (by kernel_rfl)
    (of_decide_eq_true (by kernel_rfl)) (by unfold Func.isWrapper; first | (rw [if_pos (by decide +kernel)]; kernel_rfl) | (rw [if_neg (by decide +kernel)]; exact ⟨rfl, rfl⟩))
    (fun os started H enc _ => lifted os started H enc)

theorem proved : Rows.ReadingBackCardSaid :=
  Claim7.holds_tied_plain_at .later [] [.data, .data, .data, .data, .sentinel, .sentinel, .data, .pinned] true (true, "ecab7dfc50cb52a01df084e48d9f02ccfa130385241eeededfdb83243de06351") true
    over (fun _ h => by cases h) (by kernel_rfl) (fun _ h => by cases h) readingBack_row_tie rfl ⟨rfl, rfl⟩ (by kernel_rfl) rfl
    (fun f fn hf hfn => by
      obtain rfl : f = 3 := Option.some.inj ((show Tryz.prog.funcNamed "shapesearch/shapesearchlaw05.ReadingBack" = some 3 by kernel_rfl).symm.trans hf) |>.symm
      obtain rfl : fn = Tryz.f3 := (Option.some.inj (Tryz.func3.symm.trans hfn)).symm
      exact ⟨by kernel_rfl, fun j t ht => by
        rw [Tryz.params3] at ht
        have hm : t ∈ [22, 3] := by simpa using Array.mem_of_getElem? ht
        have hall : ([22, 3].all fun u => !Tryz.prog.wantsStandIn u) = true := by kernel_rfl
        exact (show Tryz.prog.wantsStandIn t = false by simpa using List.all_eq_true.1 hall t hm)⟩)
    (by kernel_rfl)
end Go.Proofs.YtagodfielmdfhaaGreatDoor.readingBack
