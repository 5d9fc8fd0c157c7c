/- That the law TopChannels returns true for every input that can be read, and leaves its arguments as they were; the package variables that it lists start as the program lays them, which the card ties to the text; no further condition. -/
import Derived.Test.YtpbnabibnkohdaaGreatDoorRows
import Derived.WalkKit
import Derived.ProofKit
import Derived.OpenShut
import Derived.LaidMore
import Derived.Stop.Joined
import Derived.SevenTiedAt
import Derived.Test.YtpbnabibnkohdaaGreatDoorCards
import Derived.Test.YtpbnabibnkohdaaGreatDoorTie
import Derived.Test.YtpbnabibnkohdaaGreatDoorGc1
import Derived.Test.YtpbnabibnkohdaaGreatDoorGc2
import Derived.Test.YtpbnabibnkohdaaGreatDoorGc3
import Derived.Test.YtpbnabibnkohdaaGreatDoorGc4
import Derived.Test.YtpbnabibnkohdaaGreatDoorGc5
import Derived.Test.YtpbnabibnkohdaaGreatDoorGc6
import Derived.Test.YtpbnabibnkohdaaGreatDoorGc7
import Derived.Test.YtpbnabibnkohdaaGreatDoorGc8
import Derived.ShutString
import Derived.ChangeOld
import Derived.Below
namespace Go.Proofs.YtpbnabibnkohdaaGreatDoor.topChannels
open Go.ChangeShapes Go.WideShapes Go.ChangeAt Go.RowKit Wo
open Go.ChangeMaps (open_string shut_string)
set_option linter.unusedVariables false

theorem own : ownKnob Tryz.prog.godebug = none := by kernel_rfl
theorem laidOut : laidOutB Tryz.prog = true := by kernel_rfl

/-- WHAT THE WALK IS TOLD OF A SLICE OF INTEGERS THAT CAME IN: it is nil; or it leads to a row of 'cap' cells, the numbers 'zs' (the first 'len' are its elements, the rest its spare room), each fitting its kind. -/
def IsRow (k : IntKind) (w : World) (a : Option Addr) (len cap : Nat) (zs : List Int) : Prop :=
  (a = none ∧ len = 0 ∧ cap = 0 ∧ zs = []) ∨
  ∃ x, a = some x ∧ len ≤ cap ∧ cap ≤ maxLen ∧ zs.length = cap ∧ (∀ i, i < zs.length → w.cell? (x.add i) = some (.int k (zs.getD i 0))) ∧ ∀ n ∈ zs, (Lit.int k n).wf = true

open Go.Proofs.YtpbnabibnkohdaaGreatDoor.Tc Go.Proofs.YtpbnabibnkohdaaGreatDoor.Ch Go.Proofs.YtpbnabibnkohdaaGreatDoor.Wi Go.Proofs.YtpbnabibnkohdaaGreatDoor.Wo Go.Proofs.YtpbnabibnkohdaaGreatDoor.Sr Go.Proofs.YtpbnabibnkohdaaGreatDoor.Tp in
set_option maxHeartbeats 16000000 in
set_option maxRecDepth 100000 in
theorem walk (a0 : Option Addr) (len0 cap0 : Nat) (z0 : List Int) (a1 : Int) (w : World) (hL : Tp.Lt w) (w0 : IsRow .i64 w a0 len0 cap0 z0) (w1 : (Lit.int .u8 a1).wf = true) :
    Calls Tryz.prog 3 #[.slice a0 len0 cap0, .int .u8 a1] w fun e w' => e = .returned (.bool true) ∧ Below w.heap.size w w' := by
  obtain ⟨b0, b1⟩ := bounds_u8 w1
  have HWF := Lib.hid w1
  clear w1
  have AW : Hid (∀ W, Bel w W → Calls Tryz.prog 13 #[] W fun e w' => e = .returned (.bool true) ∧ Bel W w') := fun W hW => running_any W (Un.Pows.bel hL hW)
  clear hL
  obtain ⟨k, hk, hk2, k0, k32⟩ : ∃ k : Int, Int.tmod a1 33 = k ∧ a1 % 33 = k ∧ 0 ≤ k ∧ k ≤ 32 := by
    have h1 := Int.tmod_nonneg (a := a1) 33 b0
    have h2 := Int.tmod_lt_of_pos a1 (b := 33) (by decide)
    exact ⟨_, rfl, (Int.tmod_eq_emod_of_nonneg b0).symm, h1, by omega⟩
  have wk : wrap64 k = k := IntWalk.wrap64_in _ (by omega)
  have wk2 : IntKind.i64.wrap k = k := IntWalk.i64_in _ (by omega)
  go_enter Tryz.func3, Tryz.ntmps3
  go_wp2_with fail
  go_at_call 6
  refine (new_any a0 len0 cap0 z0 w w0).mono ?_
  rintro e v1 ⟨q, rfl, hq, ho1, hb1⟩
  have HO1 := Lib.hid ho1
  have HB1 : Hid (Bel w v1) := hb1
  clear ho1 hb1
  go_wp2_with fail
  go_at_call 7
  refine (pair_any q _ HO1.out).mono ?_
  rintro e v2 ⟨xa, xb, ya, yb, n, L, M, rfl, n1, n2, hxy, hox, hoy, lL, lM, sL, sM, ho2, hc2⟩
  have HO2 := Lib.hid ho2
  have HB2 : Hid (Bel w v2) := Bel.ch HB1.out hc2 hq
  have HOX := Lib.hid hox
  have HOY := Lib.hid hoy
  have hgv := HO1.out.lt
  have hgv2 := HO2.out.lt
  have hxv := (hox.lt xa rfl)
  have hyv := (hoy.lt ya rfl)
  have HLL := Lib.hid (And.intro lL (And.intro lM (And.intro sL sM)))
  clear ho2 hc2 hox hoy lL lM sL sM
  go_wp2_with fail
  go_at_call 8
  refine (near_any q (some ⟨xa, 0, none⟩) xb n L (by omega) (by omega) HLL.out.2.2.1 _ HO2.out (own_zi HOX.out HLL.out.1) (fun ad e => by cases e; show xa ≠ q; omega)).mono ?_
  rintro e v3 ⟨vu, U, rfl, hou, lU, sU, ho3, hc3⟩
  obtain ⟨ua, ub, rfl, huc, hub⟩ := row_form hou (by omega)
  have HB3 : Hid (Bel w v3) := Bel.ch HB2.out hc3 hq
  have HO3 := Lib.hid ho3
  have HX3 := Lib.hid (own_ch HOX.out hc3 hgv)
  have HY3 := Lib.hid (own_ch HOY.out hc3 hgv)
  have HU3 := Lib.hid hou
  have HLU := Lib.hid (And.intro lU sU)
  have hs3 := hc3.sz
  clear ho3 hc3 hou lU sU HOX HOY
  go_wp2_with fail
  go_at_call 8
  refine (near_any q (some ⟨ya, 0, none⟩) yb n M (by omega) (by omega) HLL.out.2.2.2 _ HO3.out (own_zi HY3.out HLL.out.2.1) (fun ad e => by cases e; show ya ≠ q; omega)).mono ?_
  rintro e v4 ⟨vv, V, rfl, hov, lV, sV, ho4, hc4⟩
  obtain ⟨va, vb, rfl, hvc, hvb⟩ := row_form hov (by omega)
  have HB4 : Hid (Bel w v4) := Bel.ch HB3.out hc4 hq
  obtain ⟨lL, lM, sL, sM⟩ := HLL.out
  obtain ⟨lU, sU⟩ := HLU.out
  have zx : Hid (Zi v4 (some ⟨xa, 0, none⟩) n L) := own_zi (own_ch HX3.out hc4 hgv) lL
  have zy : Hid (Zi v4 (some ⟨ya, 0, none⟩) n M) := own_zi (own_ch HY3.out hc4 hgv) lM
  have zu : Hid (Zi v4 (some ⟨ua, 0, none⟩) n U) := own_zi (own_ch HU3.out hc4 hgv2) lU
  have zv : Hid (Zi v4 (some ⟨va, 0, none⟩) n V) := own_zi hov lV
  have SS : ∀ c, c < 2 → Sam (s2 L U c) ∧ Sam (s2 M V c) ∧ (s2 L U c).length = n ∧ (s2 M V c).length = n := fun c hc => by
    rcases (show c = 0 ∨ c = 1 by omega) with rfl | rfl
    · exact ⟨sL, sM, lL, lM⟩
    · exact ⟨sU, sV, lU, lV⟩
  have kk : (n : Int) - (n : Int) ≤ k := by omega
  have D1 : Hid (∀ W g1 g2 c1 c2 t, Bel v4 W → Bk W g1 t #[.slice (some ⟨xa, 0, none⟩) n xb, .slice (some ⟨ua, 0, none⟩) n ub] → Bk W g2 t #[.slice (some ⟨ya, 0, none⟩) n yb, .slice (some ⟨va, 0, none⟩) n vb] → _) := fun W g1 g2 c1 c2 t hW h1 h2 => apart_ok g1 g2 2 n n c1 c2 _ _ _ _ (s2 L U) (s2 M V) k (by decide) (by decide) n1 n2 n1 n2 k0 k32 kk kk W (bun2 h1 (zx.out.bel hW) (zu.out.bel hW) sL sU) (bun2 h2 (zy.out.bel hW) (zv.out.bel hW) sM sV)
  have D2 : Hid (∀ W g1 g2 c1 c2 t, Bel v4 W → Bk W g1 t #[.slice (some ⟨xa, 0, none⟩) n xb, .slice (some ⟨ua, 0, none⟩) n ub] → Bk W g2 t #[.slice (some ⟨ya, 0, none⟩) n yb, .slice (some ⟨va, 0, none⟩) n vb] → _) := fun W g1 g2 c1 c2 t hW h1 h2 => together_ok g1 g2 2 n n c1 c2 _ _ _ _ (s2 L U) (s2 M V) k (by decide) (by decide) n1 n2 n1 n2 k0 k32 kk kk W (bun2 h1 (zx.out.bel hW) (zu.out.bel hW) sL sU) (bun2 h2 (zy.out.bel hW) (zv.out.bel hW) sM sV)
  have D3 : Hid (∀ W g1 g2 c1 c2 t, Bel v4 W → Bk W g1 t #[.slice (some ⟨xa, 0, none⟩) n xb, .slice (some ⟨ua, 0, none⟩) n ub] → Bk W g2 t #[.slice (some ⟨ya, 0, none⟩) n yb, .slice (some ⟨va, 0, none⟩) n vb] → _) := fun W g1 g2 c1 c2 t hW h1 h2 => euclid_ok g1 g2 2 n c1 c2 _ _ _ _ (s2 L U) (s2 M V) (by decide) (by decide) n1 n2 (fun t ht => by
      have := es_bd (Ls := s2 L U) (Ms := s2 M V) n2 t (fun c hc => SS c (by omega))
      omega) W (bun2 h1 (zx.out.bel hW) (zu.out.bel hW) sL sU) (bun2 h2 (zy.out.bel hW) (zv.out.bel hW) sM sV)
  have D4 : Hid (∀ W, Bel v4 W → _) := fun W hW => Go.Proofs.YtpbnabibnkohdaaGreatDoor.Wa.distance_ok (some ⟨xa, 0, none⟩) (some ⟨ya, 0, none⟩) xb yb n n L M k n1 n2 n1 n2 k0 k32 kk kk sL sM W (zx.out.bel hW) (zy.out.bel hW)
  have D5 : Hid (∀ W g1 g2 c1 c2 t, Bel v4 W → Bk W g1 t #[.slice (some ⟨ua, 0, none⟩) n ub, .slice (some ⟨xa, 0, none⟩) n xb] → Bk W g2 t #[.slice (some ⟨ua, 0, none⟩) n ub, .slice (some ⟨ya, 0, none⟩) n yb] → _) := fun W g1 g2 c1 c2 t hW h1 h2 => apart_ok g1 g2 2 n n c1 c2 _ _ _ _ (s2 U L) (s2 U M) k (by decide) (by decide) n1 n2 n1 n2 k0 k32 kk kk W (bun2 h1 (zu.out.bel hW) (zx.out.bel hW) sU sL) (bun2 h2 (zu.out.bel hW) (zy.out.bel hW) sU sM)
  rw [aps2] at D1 D5
  rw [wt_same sU k0 lU (by omega) n2, Int.zero_add] at D5
  have l1 := aps_le (Ls := s2 L U) (Ms := s2 M V) k0 (by omega) (by omega) n2 n2 kk kk 2 (by decide) (fun c hc => ⟨(SS c hc).1, (SS c hc).2.1⟩)
  have l2 := tog_le (Ls := s2 L U) (Ms := s2 M V) (q := 2) k0 n2 SS
  have l3 := wt_nn (b := k) sU sV n n
  rw [aps2] at l1
  obtain ⟨A, hA⟩ : ∃ a, wt L M k n n + wt U V k n n = a := ⟨_, rfl⟩
  obtain ⟨P, hP⟩ : ∃ a, wt L M k n n = a := ⟨_, rfl⟩
  have l4 : P ≤ A := by omega
  rw [hA] at D1 l1
  rw [hP] at D4 D5
  obtain ⟨B, hB⟩ : ∃ a, wg (fs (s2 L U) (s2 M V) 2) k n n = a := ⟨_, rfl⟩
  obtain ⟨C, hC⟩ : ∃ a, es (s2 L U) (s2 M V) 2 = a := ⟨_, rfl⟩
  rw [hB] at D2 l1 l2
  rw [hC] at D3 l2
  have HC1 : Hid (A ≤ B ∧ B ≤ C ∧ P ≤ A) := ⟨l1, l2, l4⟩
  have pp : (P == P) = true := by simp
  have pq := ne_self P
  clear l1 l2 l3 l4 hA hP hB hC SS kk lL lM sL sM lU sU lV sV ho4 hc4 hov HX3 HY3 HU3 hs3
  have HB : Hid (Bel v4 v4) := Bel.rf
  go_wp2_with fail
  go_at_call 9
  refine (D1.out _ v4.heap.size (v4.heap.size + 1) _ _ 22 ((HB.out.al _).al _) ((Bk.nw _ _ _).al _) (Bk.nq _ _ _ (by simp))).mono ?_
  rintro e v5 ⟨rfl, hb⟩
  have HBn : Hid (Bel v4 v5) := ((HB.out.al _).al _).tr hb
  clear HB hb
  have HB := HBn
  clear HBn
  go_wp2_with fail
  go_at_call 10
  refine (D2.out _ v5.heap.size (v5.heap.size + 1) _ _ 22 ((HB.out.al _).al _) ((Bk.nw _ _ _).al _) (Bk.nq _ _ _ (by simp))).mono ?_
  rintro e v6 ⟨rfl, hb⟩
  have HBn : Hid (Bel v4 v6) := ((HB.out.al _).al _).tr hb
  clear HB hb
  have HB := HBn
  clear HBn
  go_wp2_with fail
  go_at_call 11
  refine (D3.out _ v6.heap.size (v6.heap.size + 1) _ _ 22 ((HB.out.al _).al _) ((Bk.nw _ _ _).al _) (Bk.nq _ _ _ (by simp))).mono ?_
  rintro e v7 ⟨rfl, hb⟩
  have HBn : Hid (Bel v4 v7) := ((HB.out.al _).al _).tr hb
  clear HB hb
  have HB := HBn
  clear HBn
  go_wp2_with fail
  go_at_call 12
  refine (D4.out _ HB.out).mono ?_
  rintro e v8 ⟨rfl, hb⟩
  have HBn : Hid (Bel v4 v8) := HB.out.tr hb
  clear HB hb
  have HB := HBn
  clear HBn
  go_wp2_with fail
  go_at_call 9
  refine (D5.out _ v8.heap.size (v8.heap.size + 1) _ _ 22 ((HB.out.al _).al _) ((Bk.nw _ _ _).al _) (Bk.nq _ _ _ (by simp))).mono ?_
  rintro e v9 ⟨rfl, hb⟩
  have HBn : Hid (Bel v4 v9) := ((HB.out.al _).al _).tr hb
  clear HB hb
  have HB := HBn
  clear HBn
  have c1 : decide (A ≤ B) = true := decide_eq_true HC1.out.1
  have c2 : decide (B ≤ C) = true := decide_eq_true HC1.out.2.1
  have c3 : decide (P ≤ A) = true := decide_eq_true HC1.out.2.2
  go_wp2_with (go_at_call 13; refine (AW.out _ (HB4.out.tr HB.out)).mono ?_; rintro e v11 ⟨rfl, h11⟩)
  go_ret
  exact ⟨rfl, ((HB4.out.tr HB.out).tr h11).bl⟩

noncomputable def pinWorld (os : Os) : World := { World.doorLaid Tryz.prog 400 os with heap := (World.doorLaid Tryz.prog 400 os).heap.setIfInBounds 4 (.cells (Go.Pinned.utf8FirstZ.map fun (n : Nat) => Value.int .u8 (n : Int)).toArray 240 (0, 0)) }
theorem door_met (os : Os) (args : Array Value) : laidMetH Tryz.prog [("math/bits.deBruijn32tab", Rows.laid_math_bits_deBruijn32tab), ("math/bits.deBruijn64tab", Rows.laid_math_bits_deBruijn64tab), ("internal/strconv.uint64pow10", Rows.laid_internal_strconv_uint64pow10), ("unicode/utf8.acceptRanges", Rows.laid_unicode_utf8_acceptRanges), ("strconv.ErrRange", Rows.laid_strconv_ErrRange), ("strconv.ErrSyntax", Rows.laid_strconv_ErrSyntax), ("shapesearch/unit.powers", Rows.laid_shapesearch_unit_powers), ("unicode/utf8.first", Rows.laid_unicode_utf8_first)] ((pinWorld os).forCall (fun _ _ => 0) ⟨#[], args, []⟩).memory :=
  laidMetH_of_parts3 (fuel := 8) (laidMet_of_run' 8 (by kernel_rfl) (by kernel_rfl)) (by kernel_rfl) (by kernel_rfl)
set_option maxRecDepth 100000 in
theorem lifted (os : Os) (started : os.Started) (H : Type) (enc : TypeId × Value → H) :
    ReturnsInHanded {} Tryz.checked os 3 .any (fun w args => (Rows.topChannelsSpec.pre enc Tryz.prog Tryz.f3 [] false w args ∧ laidMetH Tryz.prog [("math/bits.deBruijn32tab", Rows.laid_math_bits_deBruijn32tab), ("math/bits.deBruijn64tab", Rows.laid_math_bits_deBruijn64tab), ("internal/strconv.uint64pow10", Rows.laid_internal_strconv_uint64pow10), ("unicode/utf8.acceptRanges", Rows.laid_unicode_utf8_acceptRanges), ("strconv.ErrRange", Rows.laid_strconv_ErrRange), ("strconv.ErrSyntax", Rows.laid_strconv_ErrSyntax), ("shapesearch/unit.powers", Rows.laid_shapesearch_unit_powers), ("unicode/utf8.first", Rows.laid_unicode_utf8_first)] w) ∧ sizedMet enc Tryz.prog Tryz.f3 (OpenSpec.ofChange Rows.topChannelsSpec) false w args)
      (Rows.topChannelsSpec.post enc Tryz.prog Tryz.f3 false true false false) := by
  refine returnsInHanded_of_change_and (C := Tryz.checked) (X := fun w _ => laidMetH Tryz.prog [("math/bits.deBruijn32tab", Rows.laid_math_bits_deBruijn32tab), ("math/bits.deBruijn64tab", Rows.laid_math_bits_deBruijn64tab), ("internal/strconv.uint64pow10", Rows.laid_internal_strconv_uint64pow10), ("unicode/utf8.acceptRanges", Rows.laid_unicode_utf8_acceptRanges), ("strconv.ErrRange", Rows.laid_strconv_ErrRange), ("strconv.ErrSyntax", Rows.laid_strconv_ErrSyntax), ("shapesearch/unit.powers", Rows.laid_shapesearch_unit_powers), ("unicode/utf8.first", Rows.laid_unicode_utf8_first)] w) (fun _ _ _ hh h => h.of_heap hh) own started (by kernel_rfl) Tryz.func3
    (ChangeSpec.witness_shaped (enc := enc) (C := Tryz.checked) (os := os) (X := fun w _ => laidMetH Tryz.prog [("math/bits.deBruijn32tab", Rows.laid_math_bits_deBruijn32tab), ("math/bits.deBruijn64tab", Rows.laid_math_bits_deBruijn64tab), ("internal/strconv.uint64pow10", Rows.laid_internal_strconv_uint64pow10), ("unicode/utf8.acceptRanges", Rows.laid_unicode_utf8_acceptRanges), ("strconv.ErrRange", Rows.laid_strconv_ErrRange), ("strconv.ErrSyntax", Rows.laid_strconv_ErrSyntax), ("shapesearch/unit.powers", Rows.laid_shapesearch_unit_powers), ("unicode/utf8.first", Rows.laid_unicode_utf8_first)] w) false (pinWorld os) #[.slice none 0 0, .int .u8 0] 8 rfl (World.shaped_of_RefB (by kernel_rfl) (by kernel_rfl)) (by kernel_rfl) (by kernel_rfl) (by kernel_rfl) (door_met os _)) ?_
  intro W base args ds gs before hval0 hW _ _ hL hsz
  have hval : ∀ (j : Nat) t v, Tryz.f3.params[j]? = some t → args[j]? = some v → Value.okWide Tryz.prog W .any base t v := hval0
  have hW' := hW
  obtain ⟨p, q, hA0, hV, rfl, hfz, hnd⟩ := hW
  have hA : DataW.TrodAll enc Tryz.prog W 0 (fun _ => true) true Tryz.f3.params.toList args.toList ds p := hA0
  rw [Tryz.params3] at hA hval
  obtain ⟨v0, vs0, d0, ds0, p0, q0, hargs, rfl, rfl, h0, r0⟩ := trodAll_cons hA
  obtain ⟨v1, vs1, d1, ds1, p1, q1, rfl, rfl, rfl, h1, r1⟩ := trodAll_cons r0
  obtain ⟨rfl, rfl, rfl⟩ := trodAll_nil r1
  obtain rfl : args = #[v0, v1] := by cases args; simp_all
  obtain ⟨rfl, rfl⟩ := trodVars_none hV
  obtain ⟨a0, len0, cap0, rfl⟩ := okWide_slice Tryz.underlying22 (hval 0 22 v0 rfl rfl)
  have k0 := h0
  have lt0 : ∀ x ∈ p0, x.block < W.heap.size := by obtain ⟨m, hm⟩ := k0; exact DataW.trod_lt m _ _ _ hm
  obtain ⟨z0, w0⟩ : ∃ zs, IsRow .i64 W a0 len0 cap0 zs := by
    obtain ⟨fuel, hf⟩ := h0
    rcases open_ints Tryz.underlying22 Tryz.underlying3 (by kernel_rfl) hf with ⟨hcs, _⟩ | ⟨x, l, c, zs, hcs, _, hl, hm, hz, _, hcell, hwz⟩
    · simp [Value.cells] at hcs
      obtain ⟨rfl, rfl, rfl⟩ := hcs
      exact ⟨[], .inl ⟨rfl, rfl, rfl, rfl⟩⟩
    · simp [Value.cells] at hcs
      obtain ⟨rfl, rfl, rfl⟩ := hcs
      exact ⟨zs, .inr ⟨_, rfl, hl, hm, by simpa using hz, hcell, hwz⟩⟩
  obtain ⟨a1, rfl, rfl, rfl, w1⟩ := open_int Tryz.underlying5 (hval 1 5 v1 rfl rfl) h1
  clear hA0 hval0
  refine (walk a0 len0 cap0 z0 a1 W (Tp.lt_of hL) w0 w1).mono fun e W' ⟨he, bel⟩ => ?_
  subst he
  exact ⟨_, rfl, _, _, _, [], _, [], hW', trodAll_mk1 (shut_bool Tryz.underlying4 _), (trodAll_cons_mk (Below.trod laidOut (by kernel_rfl) (of_decide_eq_true (by kernel_rfl)) k0 bel lt0) (trodAll_cons_mk (shut_int Tryz.underlying5 w1) trodAll_mk0)), rfl, bel.frame _, fun h => by cases h⟩

theorem over : Rows.topChannelsRow.holds Tryz.pinned (OpenSpec.ofChange Rows.topChannelsSpec) :=
  OpenClaim.holds_of_wide 3 Tryz.f3 rfl rfl rfl rfl rfl rfl rfl ⟨rfl, rfl, rfl, rfl, rfl⟩ rfl rfl rfl rfl rfl (by kernel_rfl) Tryz.func3 (by kernel_rfl)
    (of_decide_eq_true (by kernel_rfl)) (by unfold Func.isWrapper; first | (rw [if_pos (by decide +kernel)]; kernel_rfl) | (rw [if_neg (by decide +kernel)]; exact ⟨rfl, rfl⟩))
    (fun os started H enc _ => lifted os started H enc)

theorem proved : Rows.TopChannelsCardSaid :=
  Claim7.holds_tied_plain_at .later [] [.data, .data, .data, .data, .sentinel, .sentinel, .data, .pinned] true (true, "b141cbc9322f80865e9265fb1d9648d696aa6cb162d7e691e33f3edc7f9f5847") true
    over (fun _ h => by cases h) (by kernel_rfl) (fun _ h => by cases h) topChannels_row_tie rfl ⟨rfl, rfl⟩ (by kernel_rfl) rfl
    (fun f fn hf hfn => by
      obtain rfl : f = 3 := Option.some.inj ((show Tryz.prog.funcNamed "shapesearch/shapesearchtop.TopChannels" = some 3 by kernel_rfl).symm.trans hf) |>.symm
      obtain rfl : fn = Tryz.f3 := (Option.some.inj (Tryz.func3.symm.trans hfn)).symm
      exact ⟨by kernel_rfl, fun j t ht => by
        rw [Tryz.params3] at ht
        have hm : t ∈ [22, 5] := by simpa using Array.mem_of_getElem? ht
        have hall : ([22, 5].all fun u => !Tryz.prog.wantsStandIn u) = true := by kernel_rfl
        exact (show Tryz.prog.wantsStandIn t = false by simpa using List.all_eq_true.1 hall t hm)⟩)
    (by kernel_rfl)
end Go.Proofs.YtpbnabibnkohdaaGreatDoor.topChannels
