/- That the law ReadingLines returns true for every input that can be read, and leaves its arguments as they were; the package variables that it lists start as the program lays them, which the card ties to the text; no further condition. -/
import Derived.Test.YtagodfielmdfhaaGreatDoorRows
import Derived.WalkKit
import Derived.ProofKit
import Derived.OpenShut
import Derived.LaidMore
import Derived.Stop.Joined
import Derived.SevenTiedAt
import Derived.Test.YtagodfielmdfhaaGreatDoorCards
import Derived.Test.YtagodfielmdfhaaGreatDoorTie
import Derived.Test.YtagodfielmdfhaaGreatDoorWords
import Derived.Test.YtagodfielmdfhaaGreatDoorSrcNew0
import Derived.Test.YtagodfielmdfhaaGreatDoorRtA
import Derived.ShutString
import Derived.ChangeOld
import Derived.Below
namespace Go.Proofs.YtagodfielmdfhaaGreatDoor.readingLines
open Go.ChangeShapes Go.WideShapes Go.ChangeAt Go.RowKit Wo
open Go.ChangeMaps (open_string shut_string)
set_option linter.unusedVariables false

theorem own : ownKnob Tryz.prog.godebug = none := by kernel_rfl
theorem laidOut : laidOutB Tryz.prog = true := by kernel_rfl

/-- WHAT THE WALK IS TOLD OF A SLICE OF INTEGERS THAT CAME IN: it is nil; or it leads to a row of 'cap' cells, the numbers 'zs' (the first 'len' are its elements, the rest its spare room), each fitting its kind. -/
def IsRow (k : IntKind) (w : World) (a : Option Addr) (len cap : Nat) (zs : List Int) : Prop :=
  (a = none ∧ len = 0 ∧ cap = 0 ∧ zs = []) ∨
  ∃ x, a = some x ∧ len ≤ cap ∧ cap ≤ maxLen ∧ zs.length = cap ∧ (∀ i, i < zs.length → w.cell? (x.add i) = some (.int k (zs.getD i 0))) ∧ ∀ n ∈ zs, (Lit.int k n).wf = true

open Go.Proofs.YtagodfielmdfhaaGreatDoor.Rt Go.Proofs.YtagodfielmdfhaaGreatDoor.Un Go.Proofs.YtagodfielmdfhaaGreatDoor.Rg Go.Proofs.YtagodfielmdfhaaGreatDoor.Wi Go.Proofs.YtagodfielmdfhaaGreatDoor.Wo Go.Proofs.YtagodfielmdfhaaGreatDoor.Sr in
set_option maxHeartbeats 8000000 in
set_option maxRecDepth 100000 in
theorem walk (a0 : Option Addr) (len0 cap0 : Nat) (z0 : List Int) (a1 : Option Addr) (len1 cap1 : Nat) (z1 : List Int) (a2 : Int) (w : World) (hL : Rt.Lr w) (w0 : IsRow .i64 w a0 len0 cap0 z0) (w1 : IsRow .i64 w a1 len1 cap1 z1) (w2 : (Lit.int .u8 a2).wf = true) :
    Calls Tryz.prog 5 #[.slice a0 len0 cap0, .slice a1 len1 cap1, .int .u8 a2] w fun e w' => e = .returned (.bool true) ∧ Below w.heap.size w w' := by
  have HL := Lib.hid hL
  clear hL
  have AW : Hid (∀ W, Bel w W → Calls Tryz.prog 13 #[] W fun e w' => e = .returned (.bool true) ∧ Bel W w') := fun W hW => awake_any W (HL.out.bel hW).2
  have HPR : Hid (∀ (s : ByteArray) (l : List (Int × Int)) (k : Nat) (er : Int), s.size ≤ 16384 → run US2 (lns s.data.toList) 1 [] = (l, k, er) → ∀ (h : Nat) (W : World), Bel w W → Zu W h US2 → Calls Tryz.prog 10 #[.string s, .slice (some ⟨h, 0, none⟩) 2 2] W (Par l k er W)) := fun s l k er hs hr h W hW hZ => parse_is s hs hr h W hZ (HL.out.bel hW).2
  obtain ⟨hu0, hu1⟩ := bounds_u8 w2
  clear w2
  go_enter Tryz.func5, Tryz.ntmps5
  go_wp2_with fail
  go_at_call 7
  refine (new_any a0 len0 cap0 z0 w w0).mono ?_
  rintro e v1 ⟨g, rfl, hg, ho1, hb1⟩
  have HO1 := Lib.hid ho1
  have HB1 : Hid (Bel w v1) := hb1
  clear ho1 hb1
  go_wp2_with fail
  go_at_call 8
  refine (readings_new g 10 (by decide) _ HO1.out).mono ?_
  rintro e v2 ⟨v, k, l, rfl, hown, hl, hk, hv, ho2, hc2⟩
  have HB2 : Hid (Bel w v2) := Bel.ch HB1.out hc2 hg
  obtain ⟨A, ca, rfl, hz, hA, hca⟩ := own_zr2 hown hl
  have HZ := Lib.hid hz
  have HA := Lib.hid hA
  have HV := Lib.hid hv
  have HLN := Lib.hid (And.intro hl hk)
  have HW1 := Lib.hid (row_later HB2.out w1)
  clear hown hl hk hv ho2 hc2 hz hA w1
  go_wp2_with fail
  go_at_call 7
  refine (new_any a1 len1 cap1 z1 v2 HW1.out).mono ?_
  rintro e v3 ⟨g3, rfl, hg3, ho3, hb3⟩
  have HO3 := Lib.hid ho3
  have HB3 : Hid (Bel v2 v3) := hb3
  clear ho3 hb3
  go_wp2_with fail
  go_at_call 8
  refine (readings_new g3 10 (by decide) _ HO3.out).mono ?_
  rintro e v4 ⟨u4, k4, m, rfl, hown4, hl4, hk4, hv4, ho4, hc4⟩
  have HB4 : Hid (Bel v2 v4) := Bel.ch HB3.out hc4 hg3
  obtain ⟨A4, ca4, rfl, hz4, hA4, hca4⟩ := own_zr2 hown4 hl4
  have HZ4 := Lib.hid (HZ.out.bel HB4.out)
  have HY4 := Lib.hid hz4
  have HA4 := Lib.hid hA4
  have HV4 := Lib.hid hv4
  have HLM := Lib.hid (And.intro hl4 hk4)
  have HBW4 : Hid (Bel w v4) := HB2.out.tr HB4.out
  clear hown4 hl4 hk4 hv4 ho4 hc4 hz4 hA4
  obtain ⟨s, hs⟩ : ∃ s : ByteArray, (⟨(ft l).toArray⟩ : ByteArray) = s := ⟨_, rfl⟩
  obtain ⟨t, ht⟩ : ∃ s : ByteArray, (⟨(ft m).toArray⟩ : ByteArray) = s := ⟨_, rfl⟩
  have hsd : s.data.toList = ft l := by rw [← hs]
  have htd : t.data.toList = ft m := by rw [← ht]
  have hfl := ft_len l HV.out
  have hfm := ft_len m HV4.out
  have hsz : s.size ≤ 400 := by rw [Lib.size_eq, hsd]; have := HLN.out; omega
  have htz : t.size ≤ 400 := by rw [Lib.size_eq, htd]; have := HLM.out; omega
  have HF : Hid (∀ W, Bel v4 W → Calls Tryz.prog 9 #[.slice A k ca] W fun e w' => e = .returned (.tuple #[.string s, .int .i64 0]) ∧ Bel W w') := fun W hW => by
    rw [← hs]; exact format_ok A ca k l (by have := HLN.out; omega) HV.out W (HZ4.out.bel hW) (tab_bel HL.out (HBW4.out.tr hW))
  have HG : Hid (∀ W, Bel v4 W → Calls Tryz.prog 9 #[.slice A4 k4 ca4] W fun e w' => e = .returned (.tuple #[.string t, .int .i64 0]) ∧ Bel W w') := fun W hW => by
    rw [← ht]; exact format_ok A4 ca4 k4 m (by have := HLM.out; omega) HV4.out W (HY4.out.bel hW) (tab_bel HL.out (HBW4.out.tr hW))
  have HSD := Lib.hid (And.intro hsd htd)
  obtain ⟨ns, hns⟩ : ∃ k, s.size = k := ⟨_, rfl⟩
  obtain ⟨nt, hnt⟩ : ∃ k, t.size = k := ⟨_, rfl⟩
  rw [hns] at hsz
  rw [hnt] at htz
  clear hs ht hsd htd hfl hfm
  go_wp2_with fail
  go_at_call 9
  refine (HF.out _ Bel.rf).mono ?_
  rintro e v5 ⟨rfl, hb5⟩
  have HB5 := Lib.hid hb5
  clear hb5
  have hj : Int.tmod a2 5 = 0 ∨ Int.tmod a2 5 = 1 ∨ Int.tmod a2 5 = 2 ∨ Int.tmod a2 5 = 3 ∨ Int.tmod a2 5 = 4 := by
    have h1 := Int.tmod_nonneg (a := a2) 5 hu0
    have h2 := Int.tmod_lt_of_pos a2 (b := 5) (by decide)
    omega
  go_wp2_with fail
  go_at_call 9
  refine (HG.out _ HB5.out).mono ?_
  rintro e v6 ⟨rfl, hb6⟩
  have HB6 : Hid (Bel v4 v6) := HB5.out.tr hb6
  clear hb6
  rcases hj with hj | hj | hj | hj | hj
  · have lk : (k : Int) ≤ 10 := by have := HLN.out.2; omega
    have P1 : Hid (∀ (h : Nat) (W : World), Bel v6 W → Zu W h US2 → _) := fun h W hW hZ => HPR.out (s ++ ⟨#[49, 32, 32, 50, 32, 114, 97, 119]⟩ ++ ⟨#[10]⟩ ++ t) [] (k + 1) 3 (by rw [ByteArray.size_append, ByteArray.size_append, ByteArray.size_append, hns, hnt]; show ns + 8 + 1 + nt ≤ _; omega) (by
        rw [ByteArray.data_append, Array.toList_append, ByteArray.data_append, Array.toList_append, ByteArray.data_append, Array.toList_append, HSD.out.1, HSD.out.2, ← HLN.out.1]
        exact run_wrong HV.out (by have := HLN.out; omega) [49, 32, 32, 50, 32, 114, 97, 119] _ (by decide) (by decide) (by decide) (by decide)) h W (HBW4.out.tr (HB6.out.tr hW)) hZ
    go_wp2_with fail
    go_at_call 11
    refine (units_ok _).mono ?_
    rintro e v7 ⟨h7, rfl, hZ7, hb7⟩
    have HB7 : Hid (Bel v6 v7) := ((Bel.rf.al _).al _).tr hb7
    have P2 := Lib.hid (P1.out h7 v7 HB7.out hZ7)
    clear hb7 hZ7
    go_wp2_with fail
    go_at_call 10
    refine P2.out.mono ?_
    rintro e v8 ⟨u8, rfl, hown8, hb8⟩
    have HB8 : Hid (Bel w v8) := HBW4.out.tr (HB6.out.tr (HB7.out.tr hb8))
    obtain ⟨A8, c8, rfl, hz8⟩ := own_zr hown8 rfl
    clear hown8 hb8 hz8
    go_wp2_with fail
    go_at_call 13
    refine (AW.out _ HB8.out).mono ?_
    rintro e v9 ⟨rfl, hb9⟩
    go_wp2
    go_ret
    exact ⟨rfl, (HB8.out.tr hb9).bl⟩
  · have lk : (k : Int) ≤ 10 := by have := HLN.out.2; omega
    have P1 : Hid (∀ (h : Nat) (W : World), Bel v6 W → Zu W h US2 → _) := fun h W hW hZ => HPR.out (s ++ ⟨#[49, 48, 57, 57, 53, 49, 49, 54, 50, 55, 55, 55, 55, 32, 49, 32, 114, 97, 119]⟩ ++ ⟨#[10]⟩ ++ t) [] (k + 1) 1 (by rw [ByteArray.size_append, ByteArray.size_append, ByteArray.size_append, hns, hnt]; show ns + 19 + 1 + nt ≤ _; omega) (by
        rw [ByteArray.data_append, Array.toList_append, ByteArray.data_append, Array.toList_append, ByteArray.data_append, Array.toList_append, HSD.out.1, HSD.out.2, ← HLN.out.1]
        exact run_wrong HV.out (by have := HLN.out; omega) [49, 48, 57, 57, 53, 49, 49, 54, 50, 55, 55, 55, 55, 32, 49, 32, 114, 97, 119] _ (by decide) (by decide) (by decide) (by decide)) h W (HBW4.out.tr (HB6.out.tr hW)) hZ
    go_wp2_with fail
    go_at_call 11
    refine (units_ok _).mono ?_
    rintro e v7 ⟨h7, rfl, hZ7, hb7⟩
    have HB7 : Hid (Bel v6 v7) := ((Bel.rf.al _).al _).tr hb7
    have P2 := Lib.hid (P1.out h7 v7 HB7.out hZ7)
    clear hb7 hZ7
    go_wp2_with fail
    go_at_call 10
    refine P2.out.mono ?_
    rintro e v8 ⟨u8, rfl, hown8, hb8⟩
    have HB8 : Hid (Bel w v8) := HBW4.out.tr (HB6.out.tr (HB7.out.tr hb8))
    obtain ⟨A8, c8, rfl, hz8⟩ := own_zr hown8 rfl
    clear hown8 hb8 hz8
    go_wp2_with fail
    go_at_call 13
    refine (AW.out _ HB8.out).mono ?_
    rintro e v9 ⟨rfl, hb9⟩
    go_wp2
    go_ret
    exact ⟨rfl, (HB8.out.tr hb9).bl⟩
  · have lk : (k : Int) ≤ 10 := by have := HLN.out.2; omega
    have P1 : Hid (∀ (h : Nat) (W : World), Bel v6 W → Zu W h US2 → _) := fun h W hW hZ => HPR.out (s ++ ⟨#[49, 32, 49, 32, 107]⟩ ++ ⟨#[10]⟩ ++ t) [] (k + 1) 7 (by rw [ByteArray.size_append, ByteArray.size_append, ByteArray.size_append, hns, hnt]; show ns + 5 + 1 + nt ≤ _; omega) (by
        rw [ByteArray.data_append, Array.toList_append, ByteArray.data_append, Array.toList_append, ByteArray.data_append, Array.toList_append, HSD.out.1, HSD.out.2, ← HLN.out.1]
        exact run_wrong HV.out (by have := HLN.out; omega) [49, 32, 49, 32, 107] _ (by decide) (by decide) (by decide) (by decide)) h W (HBW4.out.tr (HB6.out.tr hW)) hZ
    go_wp2_with fail
    go_at_call 11
    refine (units_ok _).mono ?_
    rintro e v7 ⟨h7, rfl, hZ7, hb7⟩
    have HB7 : Hid (Bel v6 v7) := ((Bel.rf.al _).al _).tr hb7
    have P2 := Lib.hid (P1.out h7 v7 HB7.out hZ7)
    clear hb7 hZ7
    go_wp2_with fail
    go_at_call 10
    refine P2.out.mono ?_
    rintro e v8 ⟨u8, rfl, hown8, hb8⟩
    have HB8 : Hid (Bel w v8) := HBW4.out.tr (HB6.out.tr (HB7.out.tr hb8))
    obtain ⟨A8, c8, rfl, hz8⟩ := own_zr hown8 rfl
    clear hown8 hb8 hz8
    go_wp2_with fail
    go_at_call 13
    refine (AW.out _ HB8.out).mono ?_
    rintro e v9 ⟨rfl, hb9⟩
    go_wp2
    go_ret
    exact ⟨rfl, (HB8.out.tr hb9).bl⟩
  · have lk : (k : Int) ≤ 10 := by have := HLN.out.2; omega
    have P1 : Hid (∀ (h : Nat) (W : World), Bel v6 W → Zu W h US2 → _) := fun h W hW hZ => HPR.out (s ++ ⟨#[49, 32, 49, 48, 48, 49, 32, 114, 97, 119]⟩ ++ ⟨#[10]⟩ ++ t) [] (k + 1) 12 (by rw [ByteArray.size_append, ByteArray.size_append, ByteArray.size_append, hns, hnt]; show ns + 10 + 1 + nt ≤ _; omega) (by
        rw [ByteArray.data_append, Array.toList_append, ByteArray.data_append, Array.toList_append, ByteArray.data_append, Array.toList_append, HSD.out.1, HSD.out.2, ← HLN.out.1]
        exact run_wrong HV.out (by have := HLN.out; omega) [49, 32, 49, 48, 48, 49, 32, 114, 97, 119] _ (by decide) (by decide) (by decide) (by decide)) h W (HBW4.out.tr (HB6.out.tr hW)) hZ
    go_wp2_with fail
    go_at_call 11
    refine (units_ok _).mono ?_
    rintro e v7 ⟨h7, rfl, hZ7, hb7⟩
    have HB7 : Hid (Bel v6 v7) := ((Bel.rf.al _).al _).tr hb7
    have P2 := Lib.hid (P1.out h7 v7 HB7.out hZ7)
    clear hb7 hZ7
    go_wp2_with fail
    go_at_call 10
    refine P2.out.mono ?_
    rintro e v8 ⟨u8, rfl, hown8, hb8⟩
    have HB8 : Hid (Bel w v8) := HBW4.out.tr (HB6.out.tr (HB7.out.tr hb8))
    obtain ⟨A8, c8, rfl, hz8⟩ := own_zr hown8 rfl
    clear hown8 hb8 hz8
    go_wp2_with fail
    go_at_call 13
    refine (AW.out _ HB8.out).mono ?_
    rintro e v9 ⟨rfl, hb9⟩
    go_wp2
    go_ret
    exact ⟨rfl, (HB8.out.tr hb9).bl⟩
  · have lk : (k : Int) ≤ 10 := by have := HLN.out.2; omega
    have P1 : Hid (∀ (h : Nat) (W : World), Bel v6 W → Zu W h US2 → _) := fun h W hW hZ => HPR.out (s ++ ⟨#[49, 32, 50, 48, 48, 48, 48, 48, 48, 48, 48, 48, 32, 114, 97, 119]⟩ ++ ⟨#[10]⟩ ++ t) [] (k + 1) 1 (by rw [ByteArray.size_append, ByteArray.size_append, ByteArray.size_append, hns, hnt]; show ns + 16 + 1 + nt ≤ _; omega) (by
        rw [ByteArray.data_append, Array.toList_append, ByteArray.data_append, Array.toList_append, ByteArray.data_append, Array.toList_append, HSD.out.1, HSD.out.2, ← HLN.out.1]
        exact run_wrong HV.out (by have := HLN.out; omega) [49, 32, 50, 48, 48, 48, 48, 48, 48, 48, 48, 48, 32, 114, 97, 119] _ (by decide) (by decide) (by decide) (by decide)) h W (HBW4.out.tr (HB6.out.tr hW)) hZ
    go_wp2_with fail
    go_at_call 11
    refine (units_ok _).mono ?_
    rintro e v7 ⟨h7, rfl, hZ7, hb7⟩
    have HB7 : Hid (Bel v6 v7) := ((Bel.rf.al _).al _).tr hb7
    have P2 := Lib.hid (P1.out h7 v7 HB7.out hZ7)
    clear hb7 hZ7
    go_wp2_with fail
    go_at_call 10
    refine P2.out.mono ?_
    rintro e v8 ⟨u8, rfl, hown8, hb8⟩
    have HB8 : Hid (Bel w v8) := HBW4.out.tr (HB6.out.tr (HB7.out.tr hb8))
    obtain ⟨A8, c8, rfl, hz8⟩ := own_zr hown8 rfl
    clear hown8 hb8 hz8
    go_wp2_with fail
    go_at_call 13
    refine (AW.out _ HB8.out).mono ?_
    rintro e v9 ⟨rfl, hb9⟩
    go_wp2
    go_ret
    exact ⟨rfl, (HB8.out.tr hb9).bl⟩

noncomputable def pinWorld (os : Os) : World := { World.doorLaid Tryz.prog 400 os with heap := (World.doorLaid Tryz.prog 400 os).heap.setIfInBounds 7 (.cells (Go.Pinned.utf8FirstZ.map fun (n : Nat) => Value.int .u8 (n : Int)).toArray 151 (0, 0)) }
theorem door_met (os : Os) (args : Array Value) : laidMetH Tryz.prog [("math/bits.deBruijn32tab", Rows.laid_math_bits_deBruijn32tab), ("math/bits.deBruijn64tab", Rows.laid_math_bits_deBruijn64tab), ("internal/strconv.uint64pow10", Rows.laid_internal_strconv_uint64pow10), ("unicode/utf8.acceptRanges", Rows.laid_unicode_utf8_acceptRanges), ("strconv.ErrRange", Rows.laid_strconv_ErrRange), ("strconv.ErrSyntax", Rows.laid_strconv_ErrSyntax), ("shapesearch/unit.powers", Rows.laid_shapesearch_unit_powers), ("unicode/utf8.first", Rows.laid_unicode_utf8_first)] ((pinWorld os).forCall (fun _ _ => 0) ⟨#[], args, []⟩).memory :=
  laidMetH_of_parts3 (fuel := 8) (laidMet_of_run' 8 (by kernel_rfl) (by kernel_rfl)) (by kernel_rfl) (by kernel_rfl)
set_option maxRecDepth 100000 in
theorem lifted (os : Os) (started : os.Started) (H : Type) (enc : TypeId × Value → H) :
    ReturnsInHanded {} Tryz.checked os 5 .any (fun w args => (Rows.readingLinesSpec.pre enc Tryz.prog Tryz.f5 [] false w args ∧ laidMetH Tryz.prog [("math/bits.deBruijn32tab", Rows.laid_math_bits_deBruijn32tab), ("math/bits.deBruijn64tab", Rows.laid_math_bits_deBruijn64tab), ("internal/strconv.uint64pow10", Rows.laid_internal_strconv_uint64pow10), ("unicode/utf8.acceptRanges", Rows.laid_unicode_utf8_acceptRanges), ("strconv.ErrRange", Rows.laid_strconv_ErrRange), ("strconv.ErrSyntax", Rows.laid_strconv_ErrSyntax), ("shapesearch/unit.powers", Rows.laid_shapesearch_unit_powers), ("unicode/utf8.first", Rows.laid_unicode_utf8_first)] w) ∧ sizedMet enc Tryz.prog Tryz.f5 (OpenSpec.ofChange Rows.readingLinesSpec) false w args)
      (Rows.readingLinesSpec.post enc Tryz.prog Tryz.f5 false true false false) := by
  refine returnsInHanded_of_change_and (C := Tryz.checked) (X := fun w _ => laidMetH Tryz.prog [("math/bits.deBruijn32tab", Rows.laid_math_bits_deBruijn32tab), ("math/bits.deBruijn64tab", Rows.laid_math_bits_deBruijn64tab), ("internal/strconv.uint64pow10", Rows.laid_internal_strconv_uint64pow10), ("unicode/utf8.acceptRanges", Rows.laid_unicode_utf8_acceptRanges), ("strconv.ErrRange", Rows.laid_strconv_ErrRange), ("strconv.ErrSyntax", Rows.laid_strconv_ErrSyntax), ("shapesearch/unit.powers", Rows.laid_shapesearch_unit_powers), ("unicode/utf8.first", Rows.laid_unicode_utf8_first)] w) (fun _ _ _ hh h => h.of_heap hh) own started (by kernel_rfl) Tryz.func5
    (ChangeSpec.witness_shaped (enc := enc) (C := Tryz.checked) (os := os) (X := fun w _ => laidMetH Tryz.prog [("math/bits.deBruijn32tab", Rows.laid_math_bits_deBruijn32tab), ("math/bits.deBruijn64tab", Rows.laid_math_bits_deBruijn64tab), ("internal/strconv.uint64pow10", Rows.laid_internal_strconv_uint64pow10), ("unicode/utf8.acceptRanges", Rows.laid_unicode_utf8_acceptRanges), ("strconv.ErrRange", Rows.laid_strconv_ErrRange), ("strconv.ErrSyntax", Rows.laid_strconv_ErrSyntax), ("shapesearch/unit.powers", Rows.laid_shapesearch_unit_powers), ("unicode/utf8.first", Rows.laid_unicode_utf8_first)] w) false (pinWorld os) #[.slice none 0 0, .slice none 0 0, .int .u8 0] 8 rfl (World.shaped_of_RefB (by kernel_rfl) (by kernel_rfl)) (by kernel_rfl) (by kernel_rfl) (by kernel_rfl) (door_met os _)) ?_
  intro W base args ds gs before hval0 hW _ _ hL hsz
  have hval : ∀ (j : Nat) t v, Tryz.f5.params[j]? = some t → args[j]? = some v → Value.okWide Tryz.prog W .any base t v := hval0
  have hW' := hW
  obtain ⟨p, q, hA0, hV, rfl, hfz, hnd⟩ := hW
  have hA : DataW.TrodAll enc Tryz.prog W 0 (fun _ => true) true Tryz.f5.params.toList args.toList ds p := hA0
  rw [Tryz.params5] at hA hval
  obtain ⟨v0, vs0, d0, ds0, p0, q0, hargs, rfl, rfl, h0, r0⟩ := trodAll_cons hA
  obtain ⟨v1, vs1, d1, ds1, p1, q1, rfl, rfl, rfl, h1, r1⟩ := trodAll_cons r0
  obtain ⟨v2, vs2, d2, ds2, p2, q2, rfl, rfl, rfl, h2, r2⟩ := trodAll_cons r1
  obtain ⟨rfl, rfl, rfl⟩ := trodAll_nil r2
  obtain rfl : args = #[v0, v1, v2] := by cases args; simp_all
  obtain ⟨rfl, rfl⟩ := trodVars_none hV
  obtain ⟨a0, len0, cap0, rfl⟩ := okWide_slice Tryz.underlying22 (hval 0 22 v0 rfl rfl)
  have k0 := h0
  have lt0 : ∀ x ∈ p0, x.block < W.heap.size := by obtain ⟨m, hm⟩ := k0; exact DataW.trod_lt m _ _ _ hm
  obtain ⟨z0, w0⟩ : ∃ zs, IsRow .i64 W a0 len0 cap0 zs := by
    obtain ⟨fuel, hf⟩ := h0
    rcases open_ints Tryz.underlying22 Tryz.underlying3 (by kernel_rfl) hf with ⟨hcs, _⟩ | ⟨x, l, c, zs, hcs, _, hl, hm, hz, _, hcell, hwz⟩
    · simp [Value.cells] at hcs
      obtain ⟨rfl, rfl, rfl⟩ := hcs
      exact ⟨[], .inl ⟨rfl, rfl, rfl, rfl⟩⟩
    · simp [Value.cells] at hcs
      obtain ⟨rfl, rfl, rfl⟩ := hcs
      exact ⟨zs, .inr ⟨_, rfl, hl, hm, by simpa using hz, hcell, hwz⟩⟩
  obtain ⟨a1, len1, cap1, rfl⟩ := okWide_slice Tryz.underlying22 (hval 1 22 v1 rfl rfl)
  have k1 := h1
  have lt1 : ∀ x ∈ p1, x.block < W.heap.size := by obtain ⟨m, hm⟩ := k1; exact DataW.trod_lt m _ _ _ hm
  obtain ⟨z1, w1⟩ : ∃ zs, IsRow .i64 W a1 len1 cap1 zs := by
    obtain ⟨fuel, hf⟩ := h1
    rcases open_ints Tryz.underlying22 Tryz.underlying3 (by kernel_rfl) hf with ⟨hcs, _⟩ | ⟨x, l, c, zs, hcs, _, hl, hm, hz, _, hcell, hwz⟩
    · simp [Value.cells] at hcs
      obtain ⟨rfl, rfl, rfl⟩ := hcs
      exact ⟨[], .inl ⟨rfl, rfl, rfl, rfl⟩⟩
    · simp [Value.cells] at hcs
      obtain ⟨rfl, rfl, rfl⟩ := hcs
      exact ⟨zs, .inr ⟨_, rfl, hl, hm, by simpa using hz, hcell, hwz⟩⟩
  obtain ⟨a2, rfl, rfl, rfl, w2⟩ := open_int Tryz.underlying5 (hval 2 5 v2 rfl rfl) h2
  clear hA0 hval0
  refine (walk a0 len0 cap0 z0 a1 len1 cap1 z1 a2 W (Rt.lr_of hL) w0 w1 w2).mono fun e W' ⟨he, bel⟩ => ?_
  subst he
  exact ⟨_, rfl, _, _, _, [], _, [], hW', trodAll_mk1 (shut_bool Tryz.underlying4 _), (trodAll_cons_mk (Below.trod laidOut (by kernel_rfl) (of_decide_eq_true (by kernel_rfl)) k0 bel lt0) (trodAll_cons_mk (Below.trod laidOut (by kernel_rfl) (of_decide_eq_true (by kernel_rfl)) k1 bel lt1) (trodAll_cons_mk (shut_int Tryz.underlying5 w2) trodAll_mk0))), rfl, bel.frame _, fun h => by cases h⟩

theorem over : Rows.readingLinesRow.holds Tryz.pinned (OpenSpec.ofChange Rows.readingLinesSpec) :=
  OpenClaim.holds_of_wide 5 Tryz.f5 rfl rfl rfl rfl rfl rfl rfl ⟨rfl, rfl, rfl, rfl, rfl⟩ rfl rfl rfl rfl rfl (by kernel_rfl) Tryz.func5 (by kernel_rfl)
    (of_decide_eq_true (by kernel_rfl)) (by unfold Func.isWrapper; first | (rw [if_pos (by decide +kernel)]; kernel_rfl) | (rw [if_neg (by decide +kernel)]; exact ⟨rfl, rfl⟩))
    (fun os started H enc _ => lifted os started H enc)

theorem proved : Rows.ReadingLinesCardSaid :=
  Claim7.holds_tied_plain_at .later [] [.data, .data, .data, .data, .sentinel, .sentinel, .data, .pinned] true (true, "ecab7dfc50cb52a01df084e48d9f02ccfa130385241eeededfdb83243de06351") true
    over (fun _ h => by cases h) (by kernel_rfl) (fun _ h => by cases h) readingLines_row_tie rfl ⟨rfl, rfl⟩ (by kernel_rfl) rfl
    (fun f fn hf hfn => by
      obtain rfl : f = 5 := Option.some.inj ((show Tryz.prog.funcNamed "shapesearch/shapesearchlaw05.ReadingLines" = some 5 by kernel_rfl).symm.trans hf) |>.symm
      obtain rfl : fn = Tryz.f5 := (Option.some.inj (Tryz.func5.symm.trans hfn)).symm
      exact ⟨by kernel_rfl, fun j t ht => by
        rw [Tryz.params5] at ht
        have hm : t ∈ [22, 5] := by simpa using Array.mem_of_getElem? ht
        have hall : ([22, 5].all fun u => !Tryz.prog.wantsStandIn u) = true := by kernel_rfl
        exact (show Tryz.prog.wantsStandIn t = false by simpa using List.all_eq_true.1 hall t hm)⟩)
    (by kernel_rfl)
end Go.Proofs.YtagodfielmdfhaaGreatDoor.readingLines
