/- That the law MeasureSymmetric returns true for every input that can be read, and leaves its arguments as they were; the package variables that it lists start as the program lays them, which the card ties to the text; no further condition. -/
import Derived.Test.YtabmpnmhjdbdmaaDoorRows
import Derived.WalkKit
import Derived.ProofKit
import Derived.OpenShut
import Derived.LaidMore
import Derived.Stop.Joined
import Derived.SevenTiedAt
import Derived.Test.YtabmpnmhjdbdmaaDoorCards
import Derived.Test.YtabmpnmhjdbdmaaDoorTie
import Derived.Test.YtabmpnmhjdbdmaaDoorWords
import Derived.Test.YtabmpnmhjdbdmaaDoorSrcNew0
import Derived.Test.YtabmpnmhjdbdmaaDoorMsU
import Derived.ShutString
import Derived.ChangeOld
import Derived.Below
namespace Go.Proofs.YtabmpnmhjdbdmaaDoor.measureSymmetric
open Go.ChangeShapes Go.WideShapes Go.ChangeAt Go.RowKit Wo
open Go.ChangeMaps (open_string shut_string)
set_option linter.unusedVariables false

theorem own : ownKnob Tryd.prog.godebug = none := by kernel_rfl
theorem laidOut : laidOutB Tryd.prog = true := by kernel_rfl

/-- WHAT THE WALK IS TOLD OF A SLICE OF INTEGERS THAT CAME IN: it is nil; or it leads to a row of 'cap' cells, the numbers 'zs' (the first 'len' are its elements, the rest its spare room), each fitting its kind. -/
def IsRow (k : IntKind) (w : World) (a : Option Addr) (len cap : Nat) (zs : List Int) : Prop :=
  (a = none ∧ len = 0 ∧ cap = 0 ∧ zs = []) ∨
  ∃ x, a = some x ∧ len ≤ cap ∧ cap ≤ maxLen ∧ zs.length = cap ∧ (∀ i, i < zs.length → w.cell? (x.add i) = some (.int k (zs.getD i 0))) ∧ ∀ n ∈ zs, (Lit.int k n).wf = true

open Go.Proofs.YtabmpnmhjdbdmaaDoor.Ms Go.Proofs.YtabmpnmhjdbdmaaDoor.Wi Go.Proofs.YtabmpnmhjdbdmaaDoor.Wo Go.Proofs.YtabmpnmhjdbdmaaDoor.Sr Go.Proofs.YtabmpnmhjdbdmaaDoor.Ra Go.Proofs.YtabmpnmhjdbdmaaDoor.Rr Go.Proofs.YtabmpnmhjdbdmaaDoor.Nr in
set_option maxHeartbeats 8000000 in
set_option maxRecDepth 100000 in
theorem walk (a0 : Option Addr) (len0 cap0 : Nat) (z0 : List Int) (w : World) (hL : Rr.Lw w) (w0 : IsRow .i64 w a0 len0 cap0 z0) :
    Calls Tryd.prog 3 #[.slice a0 len0 cap0] w fun e w' => e = .returned (.bool true) ∧ Below w.heap.size w w' := by
  have HL := Lib.hid hL
  clear hL
  have AW : Hid (∀ W, Bel w W → Calls Tryd.prog 12 #[] W fun e w' => e = .returned (.bool true) ∧ Bel W w') := fun W hW => awake_any W (HL.out.bel hW)
  go_enter Tryd.func3, Tryd.ntmps3
  go_wp2_with fail
  go_at_call 7
  refine (new_any a0 len0 cap0 z0 w w0).mono ?_
  rintro e v1 ⟨q0, rfl, hq, ho1, hb1⟩
  have HO := Lib.hid ho1
  have HBa : Hid (Bel w v1) := hb1
  clear ho1 hb1
  go_wp2_with fail
  go_at_call 8
  refine (measure_any q0 _ HO.out).mono ?_
  rintro e u1 ⟨k, b, g, rfl, hmv, ho, hc⟩
  have HBm : Hid (Bel w u1) := Bel.ch HBa.out hc (by have := hq; omega)
  have HO1 : Hid (Ok (u1.alloc (.cells #[.int .i64 k, .int .i64 b, .int .i64 g] 26)) q0) := ho.bel (Bel.rf.al _)
  have HKm : Hid (Bk (u1.alloc (.cells #[.int .i64 k, .int .i64 b, .int .i64 g] 26)) u1.heap.size 26 #[.int .i64 k, .int .i64 b, .int .i64 g]) := Bk.nw _ _ _
  have QL : q0 < u1.heap.size := ho.lt
  clear ho hc
  have HMV := Lib.hid hmv
  clear hmv
  go_wp2_with fail
  go_at_call 9
  refine (suited_any q0 k b g HMV.out _ HO1.out).mono ?_
  rintro e v2 ⟨xa, xb, ya, yb, n, m, L, M, rfl, n1, n2, m1, m2, hf, hox, hoy, lL, lM, sL, sM, ho2, hc2⟩
  have kM0 := hc2.bk HKm.out (by have := QL; omega)
  have HKv := Lib.hid kM0
  have HBb : Hid (Bel w v2) := Bel.ch (HBm.out.al _) hc2 (by have := hq; omega)
  have zx : Zi v2 (some ⟨xa, 0, none⟩) n L := own_zi hox lL
  have zy : Zi v2 (some ⟨ya, 0, none⟩) m M := own_zi hoy lM
  have D1 : Hid (∀ W, Bel v2 W → _) := fun W hW => dist_any k b g HMV.out (some ⟨xa, 0, none⟩) (some ⟨ya, 0, none⟩) xb yb n m L M hf n1 n2 m1 m2 sL sM W (zx.bel hW) (zy.bel hW)
  have D2 : Hid (∀ W, Bel v2 W → _) := fun W hW => dist_any k b g HMV.out (some ⟨ya, 0, none⟩) (some ⟨xa, 0, none⟩) yb xb m n M L hf.sx m1 m2 n1 n2 sM sL W (zy.bel hW) (zx.bel hW)
  have D3 : Hid (∀ W, Bel v2 W → _) := fun W hW => dist_any k b g HMV.out (some ⟨xa, 0, none⟩) (some ⟨xa, 0, none⟩) xb xb n n L L (Fit.one n HMV.out) n1 n2 n1 n2 sL sL W (zx.bel hW) (zx.bel hW)
  rw [md_sym HMV.out hf lL lM] at D2
  rw [md_self HMV.out n1 n2 lL sL] at D3
  have rv := md_rv HMV.out hf n1 n2 m1 m2 lL lM sL sM
  obtain ⟨G, hG⟩ : ∃ G, md k b g n m L M = G := ⟨_, rfl⟩
  rw [hG] at D1 D2 rv
  obtain ⟨G1, G2⟩ := G
  have VG : Hid (∀ W, _) := fun W => rvalid_ok G1 G2 rv W
  have k0 : v2.cell? ⟨u1.heap.size, 0, none⟩ = some (.int .i64 k) := kM0.cell 0
  have k1 : v2.cell? ⟨u1.heap.size, 1, none⟩ = some (.int .i64 b) := kM0.cell 1
  have k2 : v2.cell? ⟨u1.heap.size, 2, none⟩ = some (.int .i64 g) := kM0.cell 2
  clear zx zy lL lM sL sM hox hoy ho2 hc2 hf rv hG kM0 w0
  go_wp2_with fail
  go_at_call 10
  refine (D1.out _ Bel.rf).mono ?_
  rintro e v3 ⟨rfl, hb⟩
  have HB3 : Hid (Bel v2 (v3.alloc (.cells #[.int .i64 G1, .int .i64 G2] 31))) := hb.al _
  have HK3 : Hid (Bk (v3.alloc (.cells #[.int .i64 G1, .int .i64 G2] 31)) v3.heap.size 31 #[.int .i64 G1, .int .i64 G2]) := Bk.nw _ _ _
  have kM := HKv.out.bel hb
  have HKv3 := Lib.hid (kM.al (.cells #[.int .i64 G1, .int .i64 G2] 31))
  have k0 : v3.cell? ⟨u1.heap.size, 0, none⟩ = some (.int .i64 k) := kM.cell 0
  have k1 : v3.cell? ⟨u1.heap.size, 1, none⟩ = some (.int .i64 b) := kM.cell 1
  have k2 : v3.cell? ⟨u1.heap.size, 2, none⟩ = some (.int .i64 g) := kM.cell 2
  have lk := kM.lt
  clear hb kM
  go_wp2_with fail
  go_at_call 10
  refine (D2.out _ HB3.out).mono ?_
  rintro e v4 ⟨rfl, hb⟩
  have HA4 : Hid (Bel v2 v4) := HB3.out.tr hb
  have HB4 : Hid (Bel v2 (v4.alloc (.cells #[.int .i64 G1, .int .i64 G2] 31))) := HA4.out.al _
  have HK4 : Hid (Bk (v4.alloc (.cells #[.int .i64 G1, .int .i64 G2] 31)) v4.heap.size 31 #[.int .i64 G1, .int .i64 G2]) := Bk.nw _ _ _
  have HK34 := Lib.hid ((HK3.out.bel hb).al (.cells #[.int .i64 G1, .int .i64 G2] 31))
  have kM := HKv3.out.bel hb
  have k0 : v4.cell? ⟨u1.heap.size, 0, none⟩ = some (.int .i64 k) := kM.cell 0
  have k1 : v4.cell? ⟨u1.heap.size, 1, none⟩ = some (.int .i64 b) := kM.cell 1
  have k2 : v4.cell? ⟨u1.heap.size, 2, none⟩ = some (.int .i64 g) := kM.cell 2
  have lk := kM.lt
  clear hb kM
  go_wp2_with fail
  go_at_call 10
  refine (D3.out _ HB4.out).mono ?_
  rintro e v5 ⟨rfl, hb⟩
  have HA5 : Hid (Bel v2 v5) := HB4.out.tr hb
  have HB5 : Hid (Bel v2 (v5.alloc (.cells #[.int .i64 0, .int .i64 1] 31))) := HA5.out.al _
  have HK5 : Hid (Bk (v5.alloc (.cells #[.int .i64 0, .int .i64 1] 31)) v5.heap.size 31 #[.int .i64 0, .int .i64 1]) := Bk.nw _ _ _
  have kA := HK34.out.bel hb
  have kB := HK4.out.bel hb
  have p0 : v5.cell? ⟨v3.heap.size, 0, none⟩ = some (.int .i64 G1) := kA.cell 0
  have p1 : v5.cell? ⟨v3.heap.size, 1, none⟩ = some (.int .i64 G2) := kA.cell 1
  have q0' : v5.cell? ⟨v4.heap.size, 0, none⟩ = some (.int .i64 G1) := kB.cell 0
  have q1' : v5.cell? ⟨v4.heap.size, 1, none⟩ = some (.int .i64 G2) := kB.cell 1
  have lp := kA.lt
  have lq := kB.lt
  clear hb kA kB
  go_wp2_with fail
  go_at_call 11
  refine (VG.out _).mono ?_
  rintro e v6 ⟨rfl, hb⟩
  have HB6 : Hid (Bel w v6) := HBb.out.tr (HB5.out.tr hb)
  have kC := HK5.out.bel hb
  have c0 : v6.cell? ⟨v5.heap.size, 0, none⟩ = some (.int .i64 0) := kC.cell 0
  have c1 : v6.cell? ⟨v5.heap.size, 1, none⟩ = some (.int .i64 1) := kC.cell 1
  clear hb kC
  go_wp2_with (go_at_call 12; refine (AW.out _ HB6.out).mono ?_; rintro e v11 ⟨rfl, h11⟩)
  go_ret
  exact ⟨rfl, (HB6.out.tr h11).bl⟩

theorem door_met (os : Os) (args : Array Value) : laidMetH Tryd.prog [("math/bits.deBruijn32tab", Rows.laid_math_bits_deBruijn32tab), ("math/bits.deBruijn64tab", Rows.laid_math_bits_deBruijn64tab), ("internal/strconv.uint64pow10", Rows.laid_internal_strconv_uint64pow10), ("strconv.ErrRange", Rows.laid_strconv_ErrRange), ("strconv.ErrSyntax", Rows.laid_strconv_ErrSyntax)] ((World.doorLaid Tryd.prog 400 os).forCall (fun _ _ => 0) ⟨#[], args, []⟩).memory :=
  laidMetH_of_parts3 (fuel := 8) (laidMet_of_run' 8 (by kernel_rfl) (by kernel_rfl)) (by kernel_rfl) (by kernel_rfl)
set_option maxRecDepth 100000 in
theorem lifted (os : Os) (started : os.Started) (H : Type) (enc : TypeId × Value → H) :
    ReturnsInHanded {} Tryd.checked os 3 .any (fun w args => (Rows.measureSymmetricSpec.pre enc Tryd.prog Tryd.f3 [] false w args ∧ laidMetH Tryd.prog [("math/bits.deBruijn32tab", Rows.laid_math_bits_deBruijn32tab), ("math/bits.deBruijn64tab", Rows.laid_math_bits_deBruijn64tab), ("internal/strconv.uint64pow10", Rows.laid_internal_strconv_uint64pow10), ("strconv.ErrRange", Rows.laid_strconv_ErrRange), ("strconv.ErrSyntax", Rows.laid_strconv_ErrSyntax)] w) ∧ sizedMet enc Tryd.prog Tryd.f3 (OpenSpec.ofChange Rows.measureSymmetricSpec) false w args)
      (Rows.measureSymmetricSpec.post enc Tryd.prog Tryd.f3 false true false false) := by
  refine returnsInHanded_of_change_and (C := Tryd.checked) (X := fun w _ => laidMetH Tryd.prog [("math/bits.deBruijn32tab", Rows.laid_math_bits_deBruijn32tab), ("math/bits.deBruijn64tab", Rows.laid_math_bits_deBruijn64tab), ("internal/strconv.uint64pow10", Rows.laid_internal_strconv_uint64pow10), ("strconv.ErrRange", Rows.laid_strconv_ErrRange), ("strconv.ErrSyntax", Rows.laid_strconv_ErrSyntax)] w) (fun _ _ _ hh h => h.of_heap hh) own started (by kernel_rfl) Tryd.func3
    (ChangeSpec.witness_shaped (enc := enc) (C := Tryd.checked) (os := os) (X := fun w _ => laidMetH Tryd.prog [("math/bits.deBruijn32tab", Rows.laid_math_bits_deBruijn32tab), ("math/bits.deBruijn64tab", Rows.laid_math_bits_deBruijn64tab), ("internal/strconv.uint64pow10", Rows.laid_internal_strconv_uint64pow10), ("strconv.ErrRange", Rows.laid_strconv_ErrRange), ("strconv.ErrSyntax", Rows.laid_strconv_ErrSyntax)] w) false (World.doorLaid Tryd.prog 400 os) #[.slice none 0 0] 8 rfl (World.shaped_of_RefB (by kernel_rfl) (by kernel_rfl)) (by kernel_rfl) (by kernel_rfl) (by kernel_rfl) (door_met os _)) ?_
  intro W base args ds gs before hval0 hW _ _ hL hsz
  have hval : ∀ (j : Nat) t v, Tryd.f3.params[j]? = some t → args[j]? = some v → Value.okWide Tryd.prog W .any base t v := hval0
  have hW' := hW
  obtain ⟨p, q, hA0, hV, rfl, hfz, hnd⟩ := hW
  have hA : DataW.TrodAll enc Tryd.prog W 0 (fun _ => true) true Tryd.f3.params.toList args.toList ds p := hA0
  rw [Tryd.params3] at hA hval
  obtain ⟨v0, vs0, d0, ds0, p0, q0, hargs, rfl, rfl, h0, r0⟩ := trodAll_cons hA
  obtain ⟨rfl, rfl, rfl⟩ := trodAll_nil r0
  obtain rfl : args = #[v0] := by cases args; simp_all
  obtain ⟨rfl, rfl⟩ := trodVars_none hV
  obtain ⟨a0, len0, cap0, rfl⟩ := okWide_slice Tryd.underlying22 (hval 0 22 v0 rfl rfl)
  have k0 := h0
  have lt0 : ∀ x ∈ p0, x.block < W.heap.size := by obtain ⟨m, hm⟩ := k0; exact DataW.trod_lt m _ _ _ hm
  obtain ⟨z0, w0⟩ : ∃ zs, IsRow .i64 W a0 len0 cap0 zs := by
    obtain ⟨fuel, hf⟩ := h0
    rcases open_ints Tryd.underlying22 Tryd.underlying3 (by kernel_rfl) hf with ⟨hcs, _⟩ | ⟨x, l, c, zs, hcs, _, hl, hm, hz, _, hcell, hwz⟩
    · simp [Value.cells] at hcs
      obtain ⟨rfl, rfl, rfl⟩ := hcs
      exact ⟨[], .inl ⟨rfl, rfl, rfl, rfl⟩⟩
    · simp [Value.cells] at hcs
      obtain ⟨rfl, rfl, rfl⟩ := hcs
      exact ⟨zs, .inr ⟨_, rfl, hl, hm, by simpa using hz, hcell, hwz⟩⟩
  clear hA0 hval0
  refine (walk a0 len0 cap0 z0 W (Rr.lw_of hL) w0).mono fun e W' ⟨he, bel⟩ => ?_
  subst he
  exact ⟨_, rfl, _, _, _, [], _, [], hW', trodAll_mk1 (shut_bool Tryd.underlying4 _), (trodAll_cons_mk (Below.trod laidOut (by kernel_rfl) (of_decide_eq_true (by kernel_rfl)) k0 bel lt0) trodAll_mk0), rfl, bel.frame _, fun h => by cases h⟩

theorem over : Rows.measureSymmetricRow.holds Tryd.pinned (OpenSpec.ofChange Rows.measureSymmetricSpec) :=
  OpenClaim.holds_of_wide 3 Tryd.f3 rfl rfl rfl rfl rfl rfl rfl ⟨rfl, rfl, rfl, rfl, rfl⟩ rfl rfl rfl rfl rfl (by kernel_rfl) Tryd.func3 (by kernel_rfl)
    (of_decide_eq_true (by kernel_rfl)) (by unfold Func.isWrapper; first | (rw [if_pos (by decide +kernel)]; kernel_rfl) | (rw [if_neg (by decide +kernel)]; exact ⟨rfl, rfl⟩))
    (fun os started H enc _ => lifted os started H enc)

theorem proved : Rows.MeasureSymmetricCardSaid :=
  Claim7.holds_tied_plain_at .later [] [.data, .data, .data, .sentinel, .sentinel] true (true, "3a4203769b91cc8d2291e2463e5293dd968d5639c0ecf2401ffa17525343a5c0") true
    over (fun _ h => by cases h) (by kernel_rfl) (fun _ h => by cases h) measureSymmetric_row_tie rfl ⟨rfl, rfl⟩ (by kernel_rfl) rfl
    (fun f fn hf hfn => by
      obtain rfl : f = 3 := Option.some.inj ((show Tryd.prog.funcNamed "shapesearch/shapesearchlaw17.MeasureSymmetric" = some 3 by kernel_rfl).symm.trans hf) |>.symm
      obtain rfl : fn = Tryd.f3 := (Option.some.inj (Tryd.func3.symm.trans hfn)).symm
      exact ⟨by kernel_rfl, fun j t ht => by
        rw [Tryd.params3] at ht
        have hm : t ∈ [22] := by simpa using Array.mem_of_getElem? ht
        have hall : ([22].all fun u => !Tryd.prog.wantsStandIn u) = true := by kernel_rfl
        exact (show Tryd.prog.wantsStandIn t = false by simpa using List.all_eq_true.1 hall t hm)⟩)
    (by kernel_rfl)
end Go.Proofs.YtabmpnmhjdbdmaaDoor.measureSymmetric
