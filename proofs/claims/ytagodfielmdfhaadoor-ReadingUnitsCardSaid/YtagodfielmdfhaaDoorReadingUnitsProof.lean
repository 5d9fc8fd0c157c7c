/- That the law ReadingUnits returns true for every input that can be read, and leaves its arguments as they were; the package variables that it lists start as the program lays them, which the card ties to the text; no further condition. -/
import Derived.Test.YtagodfielmdfhaaDoorRows
import Derived.WalkKit
import Derived.ProofKit
import Derived.OpenShut
import Derived.LaidMore
import Derived.Stop.Joined
import Derived.SevenTiedAt
import Derived.Test.YtagodfielmdfhaaDoorCards
import Derived.Test.YtagodfielmdfhaaDoorTie
import Derived.Test.YtagodfielmdfhaaDoorWords
import Derived.Test.YtagodfielmdfhaaDoorRtU
import Derived.ShutString
namespace Go.Proofs.YtagodfielmdfhaaDoor.readingUnits
open Go.ChangeShapes Go.WideShapes Go.ChangeAt Go.RowKit Wo
open Go.ChangeMaps (open_string shut_string)
set_option linter.unusedVariables false      -- a walk need not use every 'w<i>' (that an integer argument fits its kind)

theorem own : ownKnob Tryd.prog.godebug = none := by kernel_rfl

theorem rb_len (n p : Nat) (hn : n ≤ 1000000000) (hp : p ≤ 6) : (Rd1.rb n p).length ≤ 30 := by
  unfold Rd1.rb
  split
  · rw [Lib.decDigits_length]
    have := Rt.nd_13 (n := n) (by omega)
    omega
  · obtain ⟨B, h1, h2, h3, h4⟩ := Rd1.dec_one p (n % 10 ^ p) (Nat.mod_lt _ (Nat.pow_pos (by omega)))
    rw [h1, List.length_append, Lib.decDigits_length]
    have := Rt.nd_13 (n := n / 10 ^ p) (by have := Nat.div_le_self n (10 ^ p); omega)
    simp only [List.drop_succ_cons, List.drop_zero, List.length_cons]
    omega
theorem rt_len (x : Int) (p : Nat) (h0 : -1000000000 ≤ x) (h1 : x ≤ 1000000000) (hp : p ≤ 6) : (Rd1.rt x p).length ≤ 31 := by
  have := rb_len x.natAbs p (by omega) hp
  unfold Rd1.rt
  split
  · simp only [List.length_cons]; omega
  · omega
open Go.Proofs.YtagodfielmdfhaaDoor.Rt Go.Proofs.YtagodfielmdfhaaDoor.Un Go.RowKit in
theorem zu_new (w : World) (m d : Int) : Zu (w.alloc (.cells #[.string ⟨#[114, 97, 119]⟩, .int .i64 1, .int .i64 0, .int .i64 1, .string ⟨#[117]⟩, .int .i64 m, .int .i64 0, .int .i64 d] 25)) w.heap.size (US3 m d) := by
  refine ⟨by simp, fun j u hu => ?_⟩
  have hb := Wo.Bk.nw w 25 #[.string ⟨#[114, 97, 119]⟩, .int .i64 1, .int .i64 0, .int .i64 1, .string ⟨#[117]⟩, .int .i64 m, .int .i64 0, .int .i64 d]
  rcases j with _ | _ | j
  · cases hu
    exact ⟨by rw [hb.cell]; rfl, by rw [hb.cell]; rfl, by rw [hb.cell]; rfl, by rw [hb.cell]; rfl⟩
  · cases hu
    exact ⟨by rw [hb.cell]; rfl, by rw [hb.cell]; rfl, by rw [hb.cell]; rfl, by rw [hb.cell]; rfl⟩
  · cases hu
open Go.Proofs.YtagodfielmdfhaaDoor.Rt Go.Proofs.YtagodfielmdfhaaDoor.Un Go.Proofs.YtagodfielmdfhaaDoor.Rg Go.Proofs.YtagodfielmdfhaaDoor.Wo Go.Proofs.YtagodfielmdfhaaDoor.Sr Go.Proofs.YtagodfielmdfhaaDoor.Rd1 in
set_option maxHeartbeats 8000000 in
set_option maxRecDepth 100000 in
theorem walk (a0 : Int) (a1 : Int) (a2 : Int) (a3 : Int) (a4 : Int) (w0 : (Lit.int .i16 a0).wf = true) (w1 : (Lit.int .u8 a1).wf = true) (w2 : (Lit.int .u8 a2).wf = true) (w3 : (Lit.int .u8 a3).wf = true) (w4 : (Lit.int .u32 a4).wf = true) (w : World) (hL : Rt.Lu w) :
    Calls Tryd.prog 3 #[.int .i16 a0, .int .u8 a1, .int .u8 a2, .int .u8 a3, .int .u32 a4] w fun e w' => e = .returned (.bool true) ∧ Below w.heap.size w w' := by
  obtain ⟨i1, i2⟩ := bounds_i16 w0
  obtain ⟨i3, i4⟩ := bounds_u8 w1
  obtain ⟨i5, i6⟩ := bounds_u8 w2
  obtain ⟨i7, i8⟩ := bounds_u8 w3
  obtain ⟨i9, i10⟩ := bounds_u32 w4
  have HL := Lib.hid hL
  have HW := Lib.hid (And.intro w0 (And.intro w1 (And.intro w2 (And.intro w3 w4))))
  clear hL w0 w1 w2 w3 w4
  have AW : Hid (∀ W, Bel w W → Calls Tryd.prog 8 #[] W fun e w' => e = .returned (.bool true) ∧ Bel W w') := fun W hW => awake_any W (Lu.bel HL.out hW)
  obtain ⟨T, rfl⟩ := Int.eq_ofNat_of_zero_le i9
  obtain ⟨p, hp2⟩ := Int.eq_ofNat_of_zero_le (show 0 ≤ a1 % 7 by omega)
  have hp : a1.tmod 7 = (p : Int) := by rw [Int.tmod_eq_emod_of_nonneg i3]; exact hp2
  have hp6 : p ≤ 6 := by omega
  have HC : Hid (∀ W, _) := fun W => conv_u a0 p (by omega) (by omega) hp6 (1 + a2) (1 + a3) (by omega) (by omega) (by omega) (by omega) W
  obtain ⟨q, hq⟩ : ∃ q, cv a0 p (uu (1 + a2) (1 + a3)) = q := ⟨_, rfl⟩
  rw [hq] at HC
  obtain ⟨y1, hy1⟩ : ∃ y : ByteArray, (⟨(Lib.decDigits T).toArray⟩ : ByteArray) = y := ⟨_, rfl⟩
  obtain ⟨y2, hy2⟩ : ∃ y : ByteArray, (⟨(rt a0 p).toArray⟩ : ByteArray) = y := ⟨_, rfl⟩
  have HN : Hid (∀ W, Calls Tryd.prog 5 #[.int .i64 (T : Int)] W fun e w' => e = .returned (.string y1) ∧ Bel W w') := fun W => by rw [← hy1]; exact number_any T (by omega) W
  have HF : Hid (∀ W, Calls Tryd.prog 6 #[.agg #[.int .i64 a0, .int .i64 (p : Int)]] W fun e w' => e = .returned (.string y2) ∧ Bel W w') := fun W => by rw [← hy2]; exact format_any a0 p (by omega) (by omega) hp6 W
  obtain ⟨z1, hz1⟩ : ∃ z, y1.size = z := ⟨_, rfl⟩
  obtain ⟨z2, hz2⟩ : ∃ z, y2.size = z := ⟨_, rfl⟩
  have e1 : z1 ≤ 20 := by
    rw [← hz1, ← hy1, Lib.size_eq]
    show (Lib.decDigits T).length ≤ 20
    rw [Lib.decDigits_length]
    have := nd_13 (n := T) (by omega)
    omega
  have e2 : z2 ≤ 31 := by
    rw [← hz2, ← hy2, Lib.size_eq]
    exact rt_len a0 p (by omega) (by omega) hp6
  obtain ⟨s, hs⟩ : ∃ s : ByteArray, y1 ++ ⟨#[32]⟩ ++ y2 ++ ⟨#[32, 117, 10]⟩ = s := ⟨_, rfl⟩
  have hsd : s.data.toList = lu T a0 p ++ [10] := by
    rw [← hs, ByteArray.data_append, Array.toList_append, ByteArray.data_append, Array.toList_append, ByteArray.data_append, Array.toList_append, ← hy1, ← hy2]
    unfold lu
    simp
  have hss : s.size ≤ 16384 := by
    rw [← hs]
    simp only [ByteArray.size_append, hz1, hz2]
    show z1 + 1 + z2 + 3 ≤ _
    omega
  have HS := Lib.hid hs
  have HR := Lib.hid (run_lu (1 + a2) (1 + a3) T (by omega) a0 p (by omega) (by omega) hp6)
  rw [← hsd, hq] at HR
  have HPR : Hid (∀ (l : List _) (k : Nat) (er : Int), run (US3 (1 + a2) (1 + a3)) (lns s.data.toList) 1 [] = (l, k, er) → ∀ (h : Nat) (W : World), Bel w W → Zu W h (US3 (1 + a2) (1 + a3)) → Calls Tryd.prog 7 #[.string s, .slice (some ⟨h, 0, none⟩) 2 2] W (Par l k er W)) := fun l k er hr h W hW hZ =>
    parse_us (1 + a2) (1 + a3) (by omega) (by omega) (by omega) (by omega) s hss hr h W hZ (Lu.bel HL.out hW)
  have g1 : (9223372036854775807 < z1 + 1) = False := eq_false (by omega)
  have g2 : (9223372036854775807 < z1 + 1 + z2) = False := eq_false (by omega)
  have g3 : (9223372036854775807 < z1 + 1 + z2 + 3) = False := eq_false (by omega)
  have WT : IntKind.i64.wrap (T : Int) = (T : Int) := IntWalk.i64_in _ (by omega)
  have WM : IntKind.i64.wrap (1 + a2) = 1 + a2 := IntWalk.i64_in _ (by omega)
  have WD : IntKind.i64.wrap (1 + a3) = 1 + a3 := IntWalk.i64_in _ (by omega)
  clear hs hsd hss hy1 hy2 e1 e2 hq
  go_enter Tryd.func3, Tryd.ntmps3
  go_wp2_with fail
  go_at_call 4
  refine (HC.out _).mono ?_
  rintro e v1 ⟨rfl, hb1⟩
  have HB1 : Hid (Bel w v1) := ((Bel.rf.al _).al _).tr hb1
  have k0 : Hid (Bk v1 (w.heap.size + 1) 27 #[.int .i64 a0, .int .i64 (p : Int)]) := Lib.hid (by simpa using (Bk.nw (w.alloc (.cells #[.string ⟨#[117]⟩, .int .i64 (1 + a2), .int .i64 0, .int .i64 (1 + a3)] 25)) 27 #[.int .i64 a0, .int .i64 (p : Int)]).bel hb1)
  have k1 : Hid (Bk v1 w.heap.size 25 #[.string ⟨#[117]⟩, .int .i64 (1 + a2), .int .i64 0, .int .i64 (1 + a3)]) := ((Bk.nw _ _ _).bel (Bel.rf.al _)).bel hb1
  have KS : Hid (∀ W', Bel v1 W' → ((fun w' => w'.cell? ⟨w.heap.size + 1, 0, none⟩ = some (.int .i64 a0) ∧ w'.cell? ⟨w.heap.size + 1, 1, none⟩ = some (.int .i64 (p : Int))) W')) := fun W' h => ⟨(k0.out.bel h).cell 0, (k0.out.bel h).cell 1⟩
  have c0 : v1.cell? ⟨w.heap.size + 1, 0, none⟩ = some (.int .i64 a0) := k0.out.cell 0
  have c1 : v1.cell? ⟨w.heap.size + 1, 1, none⟩ = some (.int .i64 (p : Int)) := k0.out.cell 1
  have l0 := k0.out.lt
  rcases hsm : smp q
  · rw [hsm] at HR
    have HR' := HR.out
    simp only [Bool.false_eq_true, if_false] at HR'
    have HQ := Lib.hid (HPR.out _ _ _ HR')
    clear HR' hsm HR
    go_wp2_with fail
    go_region_held3 (fun w' => w'.cell? ⟨w.heap.size + 1, 0, none⟩ = some (.int .i64 a0) ∧ w'.cell? ⟨w.heap.size + 1, 1, none⟩ = some (.int .i64 (p : Int)))
      (exact KS.out _ (by repeat (first | exact Bel.rf | (with_reducible refine Bel.drwN ?_ _) | (with_reducible refine Bel.drw ?_) | (with_reducible refine Bel.tr ?_ h2) | (with_reducible refine Bel.tr ?_ h1))))
      ((first
        | (go_at_call 5; (refine (HN.out _).mono ?_); rintro r s1 ⟨rfl, h1⟩)
        | (go_at_call 6; (with_reducible refine (HF.out _).mono ?_); rintro r s2 ⟨rfl, h2⟩)))
    have HB2 : Hid (Bel v1 s2) := Lib.hid (by (repeat (first | exact Bel.rf | (with_reducible refine Bel.drwN ?_ _) | (with_reducible refine Bel.drw ?_) | (with_reducible refine Bel.tr ?_ h2) | (with_reducible refine Bel.tr ?_ h1))))
    have HB3 : Hid (Bel w s2) := Lib.hid (HB1.out.tr HB2.out)
    have u0 : s2.cell? ⟨w.heap.size, 0, none⟩ = some (.string ⟨#[117]⟩) := (k1.out.bel HB2.out).cell 0
    have u1 : s2.cell? ⟨w.heap.size, 1, none⟩ = some (.int .i64 (1 + a2)) := (k1.out.bel HB2.out).cell 1
    have u2 : s2.cell? ⟨w.heap.size, 2, none⟩ = some (.int .i64 0) := (k1.out.bel HB2.out).cell 2
    have u3 : s2.cell? ⟨w.heap.size, 3, none⟩ = some (.int .i64 (1 + a3)) := (k1.out.bel HB2.out).cell 3
    have l1 := (k1.out.bel HB2.out).lt
    clear h1 h2 c0 c1 l0
    go_wp2_with fail
    rw [HS.out]
    go_at_call 7
    refine (HQ.out _ _ (HB3.out.al _) (zu_new _ _ _)).mono ?_
    rintro e v5 ⟨v, rfl, hown, hb5⟩
    have HB5 : Hid (Bel w v5) := Lib.hid ((HB3.out.al _).tr hb5)
    clear hown hb5
    go_wp2_with fail
    go_at_call 8
    refine (AW.out _ HB5.out).mono ?_
    rintro e v7 ⟨rfl, hb7⟩
    go_wp2
    go_ret
    exact ⟨rfl, (HB5.out.tr hb7).bl⟩
  · rw [hsm] at HR
    have HR' := HR.out
    simp only [if_true] at HR'
    have HQ := Lib.hid (HPR.out _ _ _ HR')
    clear HR' hsm HR
    go_wp2_with fail
    go_region_held3 (fun w' => w'.cell? ⟨w.heap.size + 1, 0, none⟩ = some (.int .i64 a0) ∧ w'.cell? ⟨w.heap.size + 1, 1, none⟩ = some (.int .i64 (p : Int)))
      (exact KS.out _ (by repeat (first | exact Bel.rf | (with_reducible refine Bel.drwN ?_ _) | (with_reducible refine Bel.drw ?_) | (with_reducible refine Bel.tr ?_ h2) | (with_reducible refine Bel.tr ?_ h1))))
      ((first
        | (go_at_call 5; (with_reducible refine (HN.out _).mono ?_); rintro r s1 ⟨rfl, h1⟩)
        | (go_at_call 6; (with_reducible refine (HF.out _).mono ?_); rintro r s2 ⟨rfl, h2⟩)))
    have HB2 : Hid (Bel v1 s2) := Lib.hid (by (repeat (first | exact Bel.rf | (with_reducible refine Bel.drwN ?_ _) | (with_reducible refine Bel.drw ?_) | (with_reducible refine Bel.tr ?_ h2) | (with_reducible refine Bel.tr ?_ h1))))
    have HB3 : Hid (Bel w s2) := Lib.hid (HB1.out.tr HB2.out)
    have u0 : s2.cell? ⟨w.heap.size, 0, none⟩ = some (.string ⟨#[117]⟩) := (k1.out.bel HB2.out).cell 0
    have u1 : s2.cell? ⟨w.heap.size, 1, none⟩ = some (.int .i64 (1 + a2)) := (k1.out.bel HB2.out).cell 1
    have u2 : s2.cell? ⟨w.heap.size, 2, none⟩ = some (.int .i64 0) := (k1.out.bel HB2.out).cell 2
    have u3 : s2.cell? ⟨w.heap.size, 3, none⟩ = some (.int .i64 (1 + a3)) := (k1.out.bel HB2.out).cell 3
    have l1 := (k1.out.bel HB2.out).lt
    clear h1 h2 c0 c1 l0
    go_wp2_with fail
    rw [HS.out]
    go_at_call 7
    refine (HQ.out _ _ (HB3.out.al _) (zu_new _ _ _)).mono ?_
    rintro e v5 ⟨v, rfl, hown, hb5⟩
    have HB5 : Hid (Bel w v5) := Lib.hid ((HB3.out.al _).tr hb5)
    obtain ⟨A5, c5, rfl, hz5⟩ := own_zr hown rfl
    have HY := Lib.hid hz5
    clear hown hb5 hz5
    go_wp2_with fail
    go_at_call 9
    refine (same_true A5 _ c5 1 1 [((T : Int), q)] (by decide) _ (HY.out.bel (Bel.rf.al _)) (zr_bk (Bk.nw _ _ _) 1 rfl)).mono ?_
    rintro e v6 ⟨rfl, hb6⟩
    have HB6 : Hid (Bel w v6) := Lib.hid ((HB5.out.al _).tr hb6)
    clear hb6
    go_wp2_with fail
    go_at_call 8
    refine (AW.out _ HB6.out).mono ?_
    rintro e v7 ⟨rfl, hb7⟩
    go_wp2
    go_ret
    exact ⟨rfl, (HB6.out.tr hb7).bl⟩

noncomputable def pinWorld (os : Os) : World := { World.doorLaid Tryd.prog 400 os with heap := (World.doorLaid Tryd.prog 400 os).heap.setIfInBounds 4 (.cells (Go.Pinned.utf8FirstZ.map fun (n : Nat) => Value.int .u8 (n : Int)).toArray 118 (0, 0)) }
theorem door_met (os : Os) (args : Array Value) : laidMetH Tryd.prog [("math/bits.deBruijn32tab", Rows.laid_math_bits_deBruijn32tab), ("math/bits.deBruijn64tab", Rows.laid_math_bits_deBruijn64tab), ("internal/strconv.uint64pow10", Rows.laid_internal_strconv_uint64pow10), ("unicode/utf8.acceptRanges", Rows.laid_unicode_utf8_acceptRanges), ("strconv.ErrRange", Rows.laid_strconv_ErrRange), ("strconv.ErrSyntax", Rows.laid_strconv_ErrSyntax), ("shapesearch/unit.powers", Rows.laid_shapesearch_unit_powers), ("unicode/utf8.first", Rows.laid_unicode_utf8_first)] ((pinWorld os).forCall (fun _ _ => 0) ⟨#[], args, []⟩).memory :=
  laidMetH_of_parts3 (fuel := 8) (laidMet_of_run' 8 (by kernel_rfl) (by kernel_rfl)) (by kernel_rfl) (by kernel_rfl)
set_option maxRecDepth 100000 in
theorem lifted (os : Os) (started : os.Started) (H : Type) (enc : TypeId × Value → H) :
    ReturnsInHanded {} Tryd.checked os 3 .any (fun w args => (Rows.readingUnitsSpec.pre enc Tryd.prog Tryd.f3 [] false w args ∧ laidMetH Tryd.prog [("math/bits.deBruijn32tab", Rows.laid_math_bits_deBruijn32tab), ("math/bits.deBruijn64tab", Rows.laid_math_bits_deBruijn64tab), ("internal/strconv.uint64pow10", Rows.laid_internal_strconv_uint64pow10), ("unicode/utf8.acceptRanges", Rows.laid_unicode_utf8_acceptRanges), ("strconv.ErrRange", Rows.laid_strconv_ErrRange), ("strconv.ErrSyntax", Rows.laid_strconv_ErrSyntax), ("shapesearch/unit.powers", Rows.laid_shapesearch_unit_powers), ("unicode/utf8.first", Rows.laid_unicode_utf8_first)] w) ∧ sizedMet enc Tryd.prog Tryd.f3 (OpenSpec.ofChange Rows.readingUnitsSpec) false w args)
      (Rows.readingUnitsSpec.post enc Tryd.prog Tryd.f3 false true false false) := by
  refine returnsInHanded_of_change_and (C := Tryd.checked) (X := fun w _ => laidMetH Tryd.prog [("math/bits.deBruijn32tab", Rows.laid_math_bits_deBruijn32tab), ("math/bits.deBruijn64tab", Rows.laid_math_bits_deBruijn64tab), ("internal/strconv.uint64pow10", Rows.laid_internal_strconv_uint64pow10), ("unicode/utf8.acceptRanges", Rows.laid_unicode_utf8_acceptRanges), ("strconv.ErrRange", Rows.laid_strconv_ErrRange), ("strconv.ErrSyntax", Rows.laid_strconv_ErrSyntax), ("shapesearch/unit.powers", Rows.laid_shapesearch_unit_powers), ("unicode/utf8.first", Rows.laid_unicode_utf8_first)] w) (fun _ _ _ hh h => h.of_heap hh) own started (by kernel_rfl) Tryd.func3
    (ChangeSpec.witness_shaped (enc := enc) (C := Tryd.checked) (os := os) (X := fun w _ => laidMetH Tryd.prog [("math/bits.deBruijn32tab", Rows.laid_math_bits_deBruijn32tab), ("math/bits.deBruijn64tab", Rows.laid_math_bits_deBruijn64tab), ("internal/strconv.uint64pow10", Rows.laid_internal_strconv_uint64pow10), ("unicode/utf8.acceptRanges", Rows.laid_unicode_utf8_acceptRanges), ("strconv.ErrRange", Rows.laid_strconv_ErrRange), ("strconv.ErrSyntax", Rows.laid_strconv_ErrSyntax), ("shapesearch/unit.powers", Rows.laid_shapesearch_unit_powers), ("unicode/utf8.first", Rows.laid_unicode_utf8_first)] w) false (pinWorld os) #[.int .i16 0, .int .u8 0, .int .u8 0, .int .u8 0, .int .u32 0] 8 rfl (World.shaped_of_RefB (by kernel_rfl) (by kernel_rfl)) (by kernel_rfl) (by kernel_rfl) (by kernel_rfl) (door_met os _)) ?_
  intro W base args ds gs before hval0 hW _ _ hL hsz
  have hval : ∀ (j : Nat) t v, Tryd.f3.params[j]? = some t → args[j]? = some v → Value.okWide Tryd.prog W .any base t v := hval0
  have hW' := hW
  obtain ⟨p, q, hA0, hV, rfl, hfz, hnd⟩ := hW
  have hA : DataW.TrodAll enc Tryd.prog W 0 (fun _ => true) true Tryd.f3.params.toList args.toList ds p := hA0
  rw [Tryd.params3] at hA hval
  obtain ⟨v0, vs0, d0, ds0, p0, q0, hargs, rfl, rfl, h0, r0⟩ := trodAll_cons hA
  obtain ⟨v1, vs1, d1, ds1, p1, q1, rfl, rfl, rfl, h1, r1⟩ := trodAll_cons r0
  obtain ⟨v2, vs2, d2, ds2, p2, q2, rfl, rfl, rfl, h2, r2⟩ := trodAll_cons r1
  obtain ⟨v3, vs3, d3, ds3, p3, q3, rfl, rfl, rfl, h3, r3⟩ := trodAll_cons r2
  obtain ⟨v4, vs4, d4, ds4, p4, q4, rfl, rfl, rfl, h4, r4⟩ := trodAll_cons r3
  obtain ⟨rfl, rfl, rfl⟩ := trodAll_nil r4
  obtain rfl : args = #[v0, v1, v2, v3, v4] := by cases args; simp_all
  obtain ⟨rfl, rfl⟩ := trodVars_none hV
  obtain ⟨a0, rfl, rfl, rfl, w0⟩ := open_int Tryd.underlying22 (hval 0 22 v0 rfl rfl) h0
  obtain ⟨a1, rfl, rfl, rfl, w1⟩ := open_int Tryd.underlying5 (hval 1 5 v1 rfl rfl) h1
  obtain ⟨a2, rfl, rfl, rfl, w2⟩ := open_int Tryd.underlying5 (hval 2 5 v2 rfl rfl) h2
  obtain ⟨a3, rfl, rfl, rfl, w3⟩ := open_int Tryd.underlying5 (hval 3 5 v3 rfl rfl) h3
  obtain ⟨a4, rfl, rfl, rfl, w4⟩ := open_int Tryd.underlying23 (hval 4 23 v4 rfl rfl) h4
  clear hA0 hval0
  simp only [List.append_nil] at hW'
  refine (walk a0 a1 a2 a3 a4 w0 w1 w2 w3 w4 W (Rt.lu_of hL)).mono fun e W' ⟨he, hg⟩ => ?_
  subst he
  exact ⟨_, rfl, post_below hW' (fun _ _ _ => (trodAll_cons_mk (shut_bool Tryd.underlying4 _) trodAll_mk0)) (fun sp _ => (trodAll_cons_mk (shut_int Tryd.underlying22 w0) (trodAll_cons_mk (shut_int Tryd.underlying5 w1) (trodAll_cons_mk (shut_int Tryd.underlying5 w2) (trodAll_cons_mk (shut_int Tryd.underlying5 w3) (trodAll_cons_mk (shut_int Tryd.underlying23 w4) trodAll_mk0)))))) (fun _ _ => rfl) rfl hg (ok_one (by kernel_rfl) rfl (okWide_bool_mk Tryd.underlying4 _))⟩

theorem over : Rows.readingUnitsRow.holds Tryd.pinned (OpenSpec.ofChange Rows.readingUnitsSpec) :=
  OpenClaim.holds_of_wide 3 Tryd.f3 rfl rfl rfl rfl rfl rfl rfl ⟨rfl, rfl, rfl, rfl, rfl⟩ rfl rfl rfl rfl rfl (by kernel_rfl) Tryd.func3 (by kernel_rfl)
    (of_decide_eq_true (by kernel_rfl)) (by unfold Func.isWrapper; first | (rw [if_pos (by decide +kernel)]; kernel_rfl) | (rw [if_neg (by decide +kernel)]; exact ⟨rfl, rfl⟩))
    (fun os started H enc _ => lifted os started H enc)

theorem proved : Rows.ReadingUnitsCardSaid :=
  Claim7.holds_tied_plain_at .later [] [.data, .data, .data, .data, .sentinel, .sentinel, .data, .pinned] true (true, "c6699e3513fbea9789dbdf445bfee1ae638add600ae3494edf3602eefa79f7aa") true
    over (fun _ h => by cases h) (by kernel_rfl) (fun _ h => by cases h) readingUnits_row_tie rfl ⟨rfl, rfl⟩ (by kernel_rfl) rfl
    (fun f fn hf hfn => by
      obtain rfl : f = 3 := Option.some.inj ((show Tryd.prog.funcNamed "shapesearch/shapesearchlaw05.ReadingUnits" = some 3 by kernel_rfl).symm.trans hf) |>.symm
      obtain rfl : fn = Tryd.f3 := (Option.some.inj (Tryd.func3.symm.trans hfn)).symm
      exact ⟨by kernel_rfl, fun j t ht => by
        rw [Tryd.params3] at ht
        have hm : t ∈ [22, 5, 23] := by simpa using Array.mem_of_getElem? ht
        have hall : ([22, 5, 23].all fun u => !Tryd.prog.wantsStandIn u) = true := by kernel_rfl
        exact (show Tryd.prog.wantsStandIn t = false by simpa using List.all_eq_true.1 hall t hm)⟩)
    (by kernel_rfl)
end Go.Proofs.YtagodfielmdfhaaDoor.readingUnits
