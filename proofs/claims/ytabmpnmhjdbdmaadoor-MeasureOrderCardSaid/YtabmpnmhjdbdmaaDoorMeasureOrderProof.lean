/- That the law MeasureOrder returns true for every input that can be read, and leaves its arguments as they were; the package variables that it lists start as the program lays them, which the card ties to the text; no further condition. -/
import Derived.Test.YtabmpnmhjdbdmaaDoorRows
import Derived.WalkKit
import Derived.ProofKit
import Derived.OpenShut
import Derived.LaidMore
import Derived.Stop.Joined
import Derived.SevenTiedAt
import Derived.Test.YtabmpnmhjdbdmaaDoorCards
import Derived.Test.YtabmpnmhjdbdmaaDoorTie
import Derived.Test.YtabmpnmhjdbdmaaDoorWords
import Derived.Test.YtabmpnmhjdbdmaaDoorSrcNew0
import Derived.Test.YtabmpnmhjdbdmaaDoorMsO
import Derived.ShutString
import Derived.ChangeOld
import Derived.Below
namespace Go.Proofs.YtabmpnmhjdbdmaaDoor.measureOrder
open Go.ChangeShapes Go.WideShapes Go.ChangeAt Go.RowKit Wo
open Go.ChangeMaps (open_string shut_string)
set_option linter.unusedVariables false

theorem own : ownKnob Tryd.prog.godebug = none := by kernel_rfl
theorem laidOut : laidOutB Tryd.prog = true := by kernel_rfl

/-- WHAT THE WALK IS TOLD OF A SLICE OF INTEGERS THAT CAME IN: it is nil; or it leads to a row of 'cap' cells, the numbers 'zs' (the first 'len' are its elements, the rest its spare room), each fitting its kind. -/
def IsRow (k : IntKind) (w : World) (a : Option Addr) (len cap : Nat) (zs : List Int) : Prop :=
  (a = none ∧ len = 0 ∧ cap = 0 ∧ zs = []) ∨
  ∃ x, a = some x ∧ len ≤ cap ∧ cap ≤ maxLen ∧ zs.length = cap ∧ (∀ i, i < zs.length → w.cell? (x.add i) = some (.int k (zs.getD i 0))) ∧ ∀ n ∈ zs, (Lit.int k n).wf = true

open Go.Proofs.YtabmpnmhjdbdmaaDoor.Ms Go.Proofs.YtabmpnmhjdbdmaaDoor.Wi Go.Proofs.YtabmpnmhjdbdmaaDoor.Wo Go.Proofs.YtabmpnmhjdbdmaaDoor.Sr Go.Proofs.YtabmpnmhjdbdmaaDoor.Ra Go.Proofs.YtabmpnmhjdbdmaaDoor.Rr in
set_option maxHeartbeats 8000000 in
set_option maxRecDepth 100000 in
theorem walk (a0 : Option Addr) (len0 cap0 : Nat) (z0 : List Int) (a1 : Int) (w : World) (hL : Rr.Lw w) (w0 : IsRow .i64 w a0 len0 cap0 z0) (w1 : (Lit.int .u8 a1).wf = true) :
    Calls Tryd.prog 5 #[.slice a0 len0 cap0, .int .u8 a1] w fun e w' => e = .returned (.bool true) ∧ Below w.heap.size w w' := by
  obtain ⟨b0, b1⟩ := bounds_u8 w1
  clear w1
  have HL := Lib.hid hL
  clear hL
  have AW : Hid (∀ W, Bel w W → Calls Tryd.prog 12 #[] W fun e w' => e = .returned (.bool true) ∧ Bel W w') := fun W hW => awake_any W (HL.out.bel hW)
  go_enter Tryd.func5, Tryd.ntmps5
  go_wp2_with fail
  go_at_call 7
  refine (new_any a0 len0 cap0 z0 w w0).mono ?_
  rintro e v1 ⟨q0, rfl, hq, ho1, hb1⟩
  have HO := Lib.hid ho1
  have HBa : Hid (Bel w v1) := hb1
  clear ho1 hb1
  go_wp2_with fail
  go_at_call 13
  refine (pair_any q0 _ HO.out).mono ?_
  rintro e v2 ⟨xa, xb, ya, yb, n, L, M, rfl, n1, n2, hxy, hox, hoy, lL, lM, sL, sM, ho2, hc2⟩
  have HBb : Hid (Bel w v2) := Bel.ch HBa.out hc2 (by have := hq; omega)
  have zx : Zi v2 (some ⟨xa, 0, none⟩) n L := own_zi hox lL
  have zy : Zi v2 (some ⟨ya, 0, none⟩) n M := own_zi hoy lM
  obtain ⟨j, hj, j0, j32⟩ : ∃ j : Int, Int.tmod a1 33 = j ∧ 0 ≤ j ∧ j ≤ 32 := by
    have h1 := Int.tmod_nonneg (a := a1) 33 b0
    have h2 := Int.tmod_lt_of_pos a1 (b := 33) (by decide)
    exact ⟨_, rfl, h1, by omega⟩
  have D1 : Hid (∀ W, Bel v2 W → _) := fun W hW => dist_euc (some ⟨xa, 0, none⟩) (some ⟨ya, 0, none⟩) xb yb n L M n1 n2 sL sM W (zx.bel hW) (zy.bel hW)
  have D2 : Hid (∀ W, Bel v2 W → _) := fun W hW => dist_sh (some ⟨xa, 0, none⟩) (some ⟨ya, 0, none⟩) xb yb n L M n1 n2 sL sM W (zx.bel hW) (zy.bel hW)
  have D3 : Hid (∀ W, Bel v2 W → _) := fun W hW => dist_wp (some ⟨xa, 0, none⟩) (some ⟨ya, 0, none⟩) xb yb n n L M j n1 n2 n1 n2 j0 j32 (by omega) (by omega) sL sM W (zx.bel hW) (zy.bel hW)
  have D4 : Hid (∀ W, Bel v2 W → _) := fun W hW => dist_wp (some ⟨xa, 0, none⟩) (some ⟨ya, 0, none⟩) xb yb n n L M 32 n1 n2 n1 n2 (by decide) (by decide) (by omega) (by omega) sL sM W (zx.bel hW) (zy.bel hW)
  have eb := eu_bd n2 lL lM sL sM
  have sf := sh_facts n1 n2 lL lM sL sM
  have hz : wt L M 0 n n = su sq (df L M) := by
    rw [wt_zero sL sM (by rw [lL, lM]) n (by omega) (by omega), List.take_of_length_le (by rw [df_len (by rw [lL, lM]), lL]; exact Nat.le_refl _)]
  have hm1 : wt L M j n n ≤ wt L M 0 n n := by
    have := wt_mono (b := 0) (c := j) sL sM (by omega) j0 (i := n - 1) (j := n - 1) (by omega) (by omega) ⟨by omega, by omega⟩
    rwa [show n - 1 + 1 = n by omega] at this
  have hm2 : wt L M 32 n n ≤ wt L M j n n := by
    have := wt_mono (b := j) (c := 32) sL sM j0 j32 (i := n - 1) (j := n - 1) (by omega) (by omega) ⟨by omega, by omega⟩
    rwa [show n - 1 + 1 = n by omega] at this
  have w0' := wt_nn (b := 32) sL sM n n
  have wj' := wt_nn (b := j) sL sM n n
  rw [hz] at hm1
  obtain ⟨S, hS⟩ : ∃ a, su sq (df L M) = a := ⟨_, rfl⟩
  obtain ⟨C, hC⟩ : ∃ a, wt L M j n n = a := ⟨_, rfl⟩
  obtain ⟨E, hE⟩ : ∃ a, wt L M 32 n n = a := ⟨_, rfl⟩
  obtain ⟨T, hT⟩ : ∃ a, shv L M n = a := ⟨_, rfl⟩
  rw [hS] at D1 eb sf hm1
  rw [hC] at D3 hm1 hm2 wj'
  rw [hE] at D4 hm2 w0'
  rw [hT] at D2 sf
  obtain ⟨T1, T2⟩ := T
  have RS : RV S 1 := one_rv eb.1 (by omega)
  have RC : RV C 1 := one_rv wj' (by omega)
  have RE : RV E 1 := one_rv w0' (by omega)
  have LA : Hid (∀ W, Calls Tryd.prog 14 #[.agg #[.int .i64 S, .int .i64 1], .agg #[.int .i64 T1, .int .i64 T2]] W fun e w' => e = .returned (.bool false) ∧ Bel W w') := rless_no S 1 T1 T2 RS sf.1 sf.2
  have LB : Hid (∀ W, Calls Tryd.prog 14 #[.agg #[.int .i64 S, .int .i64 1], .agg #[.int .i64 C, .int .i64 1]] W fun e w' => e = .returned (.bool false) ∧ Bel W w') := rless_no S 1 C 1 RS RC (by omega)
  have LC : Hid (∀ W, Calls Tryd.prog 14 #[.agg #[.int .i64 C, .int .i64 1], .agg #[.int .i64 E, .int .i64 1]] W fun e w' => e = .returned (.bool false) ∧ Bel W w') := rless_no C 1 E 1 RC RE (by omega)
  have VE : Hid (∀ W, _) := fun W => rvalid_ok E 1 RE W
  have wa : IntKind.i64.wrap a1 = a1 := IntWalk.i64_in _ ⟨by omega, by omega⟩
  clear hox hoy hc2 ho2 zx zy sL sM lL lM eb sf hz hm1 hm2 w0' wj' hS hC hE hT RS RC RE w0
  have HBv2 : Hid (Bel v2 v2) := Bel.rf
  go_wp2_with fail
  go_at_call 10
  refine (D1.out _ HBv2.out).mono ?_
  rintro e v3 ⟨rfl, hb⟩
  have HAv3 : Hid (Bel v2 v3) := HBv2.out.tr hb
  clear hb
  have HBv3 : Hid (Bel v2 (v3.alloc (.cells #[.int .i64 S, .int .i64 1] 31))) := HAv3.out.al _
  have HK1 : Hid (Bk (v3.alloc (.cells #[.int .i64 S, .int .i64 1] 31)) v3.heap.size 31 #[.int .i64 S, .int .i64 1]) := Bk.nw _ _ _
  go_wp2_with fail
  go_at_call 10
  refine (D2.out _ HBv3.out).mono ?_
  rintro e v4 ⟨rfl, hb⟩
  have HAv4 : Hid (Bel v2 v4) := HBv3.out.tr hb
  have HK1v4 := Lib.hid (HK1.out.bel hb)
  clear hb
  have HBv4 : Hid (Bel v2 (v4.alloc (.cells #[.int .i64 T1, .int .i64 T2] 31))) := HAv4.out.al _
  have HK2 : Hid (Bk (v4.alloc (.cells #[.int .i64 T1, .int .i64 T2] 31)) v4.heap.size 31 #[.int .i64 T1, .int .i64 T2]) := Bk.nw _ _ _
  have HK1b : Hid (Bk (v4.alloc (.cells #[.int .i64 T1, .int .i64 T2] 31)) v3.heap.size 31 #[.int .i64 S, .int .i64 1]) := HK1v4.out.al _
  go_wp2_with fail
  go_at_call 10
  refine (D3.out _ HBv4.out).mono ?_
  rintro e v5 ⟨rfl, hb⟩
  have HAv5 : Hid (Bel v2 v5) := HBv4.out.tr hb
  have HK1bv5 := Lib.hid (HK1b.out.bel hb)
  have HK2v5 := Lib.hid (HK2.out.bel hb)
  clear hb
  have HBv5 : Hid (Bel v2 (v5.alloc (.cells #[.int .i64 C, .int .i64 1] 31))) := HAv5.out.al _
  have HK3 : Hid (Bk (v5.alloc (.cells #[.int .i64 C, .int .i64 1] 31)) v5.heap.size 31 #[.int .i64 C, .int .i64 1]) := Bk.nw _ _ _
  have HK1c : Hid (Bk (v5.alloc (.cells #[.int .i64 C, .int .i64 1] 31)) v3.heap.size 31 #[.int .i64 S, .int .i64 1]) := HK1bv5.out.al _
  have HK2b : Hid (Bk (v5.alloc (.cells #[.int .i64 C, .int .i64 1] 31)) v4.heap.size 31 #[.int .i64 T1, .int .i64 T2]) := HK2v5.out.al _
  go_wp2_with fail
  go_at_call 10
  refine (D4.out _ HBv5.out).mono ?_
  rintro e v6 ⟨rfl, hb⟩
  have HAv6 : Hid (Bel v2 v6) := HBv5.out.tr hb
  have HK1cv6 := Lib.hid (HK1c.out.bel hb)
  have HK2bv6 := Lib.hid (HK2b.out.bel hb)
  have HK3v6 := Lib.hid (HK3.out.bel hb)
  clear hb
  have HBv6 : Hid (Bel v2 (v6.alloc (.cells #[.int .i64 E, .int .i64 1] 31))) := HAv6.out.al _
  have HK4 : Hid (Bk (v6.alloc (.cells #[.int .i64 E, .int .i64 1] 31)) v6.heap.size 31 #[.int .i64 E, .int .i64 1]) := Bk.nw _ _ _
  have kS := HK1cv6.out
  have kT := HK2bv6.out
  have kC := HK3v6.out
  have s0 : v6.cell? ⟨v3.heap.size, 0, none⟩ = some (.int .i64 S) := kS.cell 0
  have s1 : v6.cell? ⟨v3.heap.size, 1, none⟩ = some (.int .i64 1) := kS.cell 1
  have t0 : v6.cell? ⟨v4.heap.size, 0, none⟩ = some (.int .i64 T1) := kT.cell 0
  have t1 : v6.cell? ⟨v4.heap.size, 1, none⟩ = some (.int .i64 T2) := kT.cell 1
  have ls := kS.lt
  have lt := kT.lt
  have lc := kC.lt
  clear kS kT kC
  go_wp2_with fail
  go_at_call 14
  refine (LA.out _).mono ?_
  rintro e v7 ⟨rfl, hb⟩
  have HB7 : Hid (Bel v2 v7) := HBv6.out.tr hb
  have kS := (HK1cv6.out.al (.cells #[.int .i64 E, .int .i64 1] 31)).bel hb
  have kC := (HK3v6.out.al (.cells #[.int .i64 E, .int .i64 1] 31)).bel hb
  have kE := HK4.out.bel hb
  have HS7 := Lib.hid kS
  have HC7 := Lib.hid kC
  have HE7 := Lib.hid kE
  have s0 : v7.cell? ⟨v3.heap.size, 0, none⟩ = some (.int .i64 S) := kS.cell 0
  have s1 : v7.cell? ⟨v3.heap.size, 1, none⟩ = some (.int .i64 1) := kS.cell 1
  have c0 : v7.cell? ⟨v5.heap.size, 0, none⟩ = some (.int .i64 C) := kC.cell 0
  have c1 : v7.cell? ⟨v5.heap.size, 1, none⟩ = some (.int .i64 1) := kC.cell 1
  clear hb kS kC kE
  go_wp2_with fail
  go_at_call 14
  refine (LB.out _).mono ?_
  rintro e v8 ⟨rfl, hb⟩
  have HB8 : Hid (Bel v2 v8) := HB7.out.tr hb
  have kC := HC7.out.bel hb
  have kE := HE7.out.bel hb
  have HE8 := Lib.hid kE
  have c0 : v8.cell? ⟨v5.heap.size, 0, none⟩ = some (.int .i64 C) := kC.cell 0
  have c1 : v8.cell? ⟨v5.heap.size, 1, none⟩ = some (.int .i64 1) := kC.cell 1
  have e0 : v8.cell? ⟨v6.heap.size, 0, none⟩ = some (.int .i64 E) := kE.cell 0
  have e1 : v8.cell? ⟨v6.heap.size, 1, none⟩ = some (.int .i64 1) := kE.cell 1
  clear hb kC kE
  go_wp2_with fail
  go_at_call 14
  refine (LC.out _).mono ?_
  rintro e v9 ⟨rfl, hb⟩
  have HB9 : Hid (Bel v2 v9) := HB8.out.tr hb
  have kE := HE8.out.bel hb
  have e0 : v9.cell? ⟨v6.heap.size, 0, none⟩ = some (.int .i64 E) := kE.cell 0
  have e1 : v9.cell? ⟨v6.heap.size, 1, none⟩ = some (.int .i64 1) := kE.cell 1
  clear hb kE
  go_wp2_with fail
  go_at_call 11
  refine (VE.out _).mono ?_
  rintro e v10 ⟨rfl, hb⟩
  have HB10 : Hid (Bel w v10) := HBb.out.tr (HB9.out.tr hb)
  clear hb
  go_wp2_with (go_at_call 12; refine (AW.out _ HB10.out).mono ?_; rintro e v11 ⟨rfl, h11⟩)
  go_ret
  exact ⟨rfl, (HB10.out.tr h11).bl⟩

theorem door_met (os : Os) (args : Array Value) : laidMetH Tryd.prog [("math/bits.deBruijn32tab", Rows.laid_math_bits_deBruijn32tab), ("math/bits.deBruijn64tab", Rows.laid_math_bits_deBruijn64tab), ("internal/strconv.uint64pow10", Rows.laid_internal_strconv_uint64pow10), ("strconv.ErrRange", Rows.laid_strconv_ErrRange), ("strconv.ErrSyntax", Rows.laid_strconv_ErrSyntax)] ((World.doorLaid Tryd.prog 400 os).forCall (fun _ _ => 0) ⟨#[], args, []⟩).memory :=
  laidMetH_of_parts3 (fuel := 8) (laidMet_of_run' 8 (by kernel_rfl) (by kernel_rfl)) (by kernel_rfl) (by kernel_rfl)
set_option maxRecDepth 100000 in
theorem lifted (os : Os) (started : os.Started) (H : Type) (enc : TypeId × Value → H) :
    ReturnsInHanded {} Tryd.checked os 5 .any (fun w args => (Rows.measureOrderSpec.pre enc Tryd.prog Tryd.f5 [] false w args ∧ laidMetH Tryd.prog [("math/bits.deBruijn32tab", Rows.laid_math_bits_deBruijn32tab), ("math/bits.deBruijn64tab", Rows.laid_math_bits_deBruijn64tab), ("internal/strconv.uint64pow10", Rows.laid_internal_strconv_uint64pow10), ("strconv.ErrRange", Rows.laid_strconv_ErrRange), ("strconv.ErrSyntax", Rows.laid_strconv_ErrSyntax)] w) ∧ sizedMet enc Tryd.prog Tryd.f5 (OpenSpec.ofChange Rows.measureOrderSpec) false w args)
      (Rows.measureOrderSpec.post enc Tryd.prog Tryd.f5 false true false false) := by
  refine returnsInHanded_of_change_and (C := Tryd.checked) (X := fun w _ => laidMetH Tryd.prog [("math/bits.deBruijn32tab", Rows.laid_math_bits_deBruijn32tab), ("math/bits.deBruijn64tab", Rows.laid_math_bits_deBruijn64tab), ("internal/strconv.uint64pow10", Rows.laid_internal_strconv_uint64pow10), ("strconv.ErrRange", Rows.laid_strconv_ErrRange), ("strconv.ErrSyntax", Rows.laid_strconv_ErrSyntax)] w) (fun _ _ _ hh h => h.of_heap hh) own started (by kernel_rfl) Tryd.func5
    (ChangeSpec.witness_shaped (enc := enc) (C := Tryd.checked) (os := os) (X := fun w _ => laidMetH Tryd.prog [("math/bits.deBruijn32tab", Rows.laid_math_bits_deBruijn32tab), ("math/bits.deBruijn64tab", Rows.laid_math_bits_deBruijn64tab), ("internal/strconv.uint64pow10", Rows.laid_internal_strconv_uint64pow10), ("strconv.ErrRange", Rows.laid_strconv_ErrRange), ("strconv.ErrSyntax", Rows.laid_strconv_ErrSyntax)] w) false (World.doorLaid Tryd.prog 400 os) #[.slice none 0 0, .int .u8 0] 8 rfl (World.shaped_of_RefB (by kernel_rfl) (by kernel_rfl)) (by kernel_rfl) (by kernel_rfl) (by kernel_rfl) (door_met os _)) ?_
  intro W base args ds gs before hval0 hW _ _ hL hsz
  have hval : ∀ (j : Nat) t v, Tryd.f5.params[j]? = some t → args[j]? = some v → Value.okWide Tryd.prog W .any base t v := hval0
  have hW' := hW
  obtain ⟨p, q, hA0, hV, rfl, hfz, hnd⟩ := hW
  have hA : DataW.TrodAll enc Tryd.prog W 0 (fun _ => true) true Tryd.f5.params.toList args.toList ds p := hA0
  rw [Tryd.params5] at hA hval
  obtain ⟨v0, vs0, d0, ds0, p0, q0, hargs, rfl, rfl, h0, r0⟩ := trodAll_cons hA
  obtain ⟨v1, vs1, d1, ds1, p1, q1, rfl, rfl, rfl, h1, r1⟩ := trodAll_cons r0
  obtain ⟨rfl, rfl, rfl⟩ := trodAll_nil r1
  obtain rfl : args = #[v0, v1] := by cases args; simp_all
  obtain ⟨rfl, rfl⟩ := trodVars_none hV
  obtain ⟨a0, len0, cap0, rfl⟩ := okWide_slice Tryd.underlying22 (hval 0 22 v0 rfl rfl)
  have k0 := h0
  have lt0 : ∀ x ∈ p0, x.block < W.heap.size := by obtain ⟨m, hm⟩ := k0; exact DataW.trod_lt m _ _ _ hm
  obtain ⟨z0, w0⟩ : ∃ zs, IsRow .i64 W a0 len0 cap0 zs := by
    obtain ⟨fuel, hf⟩ := h0
    rcases open_ints Tryd.underlying22 Tryd.underlying3 (by kernel_rfl) hf with ⟨hcs, _⟩ | ⟨x, l, c, zs, hcs, _, hl, hm, hz, _, hcell, hwz⟩
    · simp [Value.cells] at hcs
      obtain ⟨rfl, rfl, rfl⟩ := hcs
      exact ⟨[], .inl ⟨rfl, rfl, rfl, rfl⟩⟩
    · simp [Value.cells] at hcs
      obtain ⟨rfl, rfl, rfl⟩ := hcs
      exact ⟨zs, .inr ⟨_, rfl, hl, hm, by simpa using hz, hcell, hwz⟩⟩
  obtain ⟨a1, rfl, rfl, rfl, w1⟩ := open_int Tryd.underlying5 (hval 1 5 v1 rfl rfl) h1
  clear hA0 hval0
  refine (walk a0 len0 cap0 z0 a1 W (Rr.lw_of hL) w0 w1).mono fun e W' ⟨he, bel⟩ => ?_
  subst he
  exact ⟨_, rfl, _, _, _, [], _, [], hW', trodAll_mk1 (shut_bool Tryd.underlying4 _), (trodAll_cons_mk (Below.trod laidOut (by kernel_rfl) (of_decide_eq_true (by kernel_rfl)) k0 bel lt0) (trodAll_cons_mk (shut_int Tryd.underlying5 w1) trodAll_mk0)), rfl, bel.frame _, fun h => by cases h⟩

theorem over : Rows.measureOrderRow.holds Tryd.pinned (OpenSpec.ofChange Rows.measureOrderSpec) :=
  OpenClaim.holds_of_wide 5 Tryd.f5 rfl rfl rfl rfl rfl rfl rfl ⟨rfl, rfl, rfl, rfl, rfl⟩ rfl rfl rfl rfl rfl (by kernel_rfl) Tryd.func5 (by kernel_rfl)
    (of_decide_eq_true (by kernel_rfl)) (by unfold Func.isWrapper; first | (rw [if_pos (by decide +kernel)]; kernel_rfl) | (rw [if_neg (by decide +kernel)]; exact ⟨rfl, rfl⟩))
    (fun os started H enc _ => lifted os started H enc)

theorem proved : Rows.MeasureOrderCardSaid :=
  Claim7.holds_tied_plain_at .later [] [.data, .data, .data, .sentinel, .sentinel] true (true, "3a4203769b91cc8d2291e2463e5293dd968d5639c0ecf2401ffa17525343a5c0") true
    over (fun _ h => by cases h) (by kernel_rfl) (fun _ h => by cases h) measureOrder_row_tie rfl ⟨rfl, rfl⟩ (by kernel_rfl) rfl
    (fun f fn hf hfn => by
      obtain rfl : f = 5 := Option.some.inj ((show Tryd.prog.funcNamed "shapesearch/shapesearchlaw17.MeasureOrder" = some 5 by kernel_rfl).symm.trans hf) |>.symm
      obtain rfl : fn = Tryd.f5 := (Option.some.inj (Tryd.func5.symm.trans hfn)).symm
      exact ⟨by kernel_rfl, fun j t ht => by
        rw [Tryd.params5] at ht
        have hm : t ∈ [22, 5] := by simpa using Array.mem_of_getElem? ht
        have hall : ([22, 5].all fun u => !Tryd.prog.wantsStandIn u) = true := by kernel_rfl
        exact (show Tryd.prog.wantsStandIn t = false by simpa using List.all_eq_true.1 hall t hm)⟩)
    (by kernel_rfl)
end Go.Proofs.YtabmpnmhjdbdmaaDoor.measureOrder
