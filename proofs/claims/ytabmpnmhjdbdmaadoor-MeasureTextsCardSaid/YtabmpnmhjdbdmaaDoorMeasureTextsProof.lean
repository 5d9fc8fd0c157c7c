/- That the law MeasureTexts returns true for every input that can be read, and leaves its arguments as they were; the package variables that it lists start as the program lays them, which the card ties to the text; no further condition. -/
import Derived.Test.YtabmpnmhjdbdmaaDoorRows
import Derived.WalkKit
import Derived.ProofKit
import Derived.OpenShut
import Derived.LaidMore
import Derived.Stop.Joined
import Derived.SevenTiedAt
import Derived.Test.YtabmpnmhjdbdmaaDoorCards
import Derived.Test.YtabmpnmhjdbdmaaDoorTie
import Derived.Test.YtabmpnmhjdbdmaaDoorWords
import Derived.Test.YtabmpnmhjdbdmaaDoorSrcNew0
import Derived.Test.YtabmpnmhjdbdmaaDoorMsT
import Derived.Test.YtabmpnmhjdbdmaaDoorMsK
import Derived.ShutString
import Derived.ChangeOld
import Derived.Below
namespace Go.Proofs.YtabmpnmhjdbdmaaDoor.measureTexts
open Go.ChangeShapes Go.WideShapes Go.ChangeAt Go.RowKit Wo
open Go.ChangeMaps (open_string shut_string)
set_option linter.unusedVariables false

theorem own : ownKnob Tryd.prog.godebug = none := by kernel_rfl
theorem laidOut : laidOutB Tryd.prog = true := by kernel_rfl

/-- WHAT THE WALK IS TOLD OF A SLICE OF INTEGERS THAT CAME IN: it is nil; or it leads to a row of 'cap' cells, the numbers 'zs' (the first 'len' are its elements, the rest its spare room), each fitting its kind. -/
def IsRow (k : IntKind) (w : World) (a : Option Addr) (len cap : Nat) (zs : List Int) : Prop :=
  (a = none ∧ len = 0 ∧ cap = 0 ∧ zs = []) ∨
  ∃ x, a = some x ∧ len ≤ cap ∧ cap ≤ maxLen ∧ zs.length = cap ∧ (∀ i, i < zs.length → w.cell? (x.add i) = some (.int k (zs.getD i 0))) ∧ ∀ n ∈ zs, (Lit.int k n).wf = true

open Go.Proofs.YtabmpnmhjdbdmaaDoor.Ms Go.Proofs.YtabmpnmhjdbdmaaDoor.Wi Go.Proofs.YtabmpnmhjdbdmaaDoor.Wo Go.Proofs.YtabmpnmhjdbdmaaDoor.Sr Go.Proofs.YtabmpnmhjdbdmaaDoor.Ra Go.Proofs.YtabmpnmhjdbdmaaDoor.Rr Go.Proofs.YtabmpnmhjdbdmaaDoor.Nr in
set_option maxHeartbeats 8000000 in
set_option maxRecDepth 100000 in
theorem walk (a0 : Option Addr) (len0 cap0 : Nat) (z0 : List Int) (a1 : ByteArray) (w : World) (hL : Rr.Lw w) (w0 : IsRow .i64 w a0 len0 cap0 z0) (w1 : a1.size ≤ maxLen) :
    Calls Tryd.prog 6 #[.slice a0 len0 cap0, .string a1] w fun e w' => e = .returned (.bool true) ∧ Below w.heap.size w w' := by
  have HL := Lib.hid hL
  clear hL
  have AW : Hid (∀ W, Bel w W → Calls Tryd.prog 12 #[] W fun e w' => e = .returned (.bool true) ∧ Bel W w') := fun W hW => awake_any W (HL.out.bel hW)
  rcases Nat.lt_or_ge 40 a1.size with hlen | hlen
  · have q : (40 : Int) < (a1.size : Int) := by omega
    go_enter Tryd.func6, Tryd.ntmps6
    go_wp2_with fail
    go_at_call 12
    refine (AW.out _ Bel.rf).mono ?_
    rintro e w1 ⟨rfl, hb⟩
    go_wp2
    go_ret
    exact ⟨rfl, hb.bl⟩
  · have q : ¬ (40 : Int) < (a1.size : Int) := by omega
    have PS : Hid (∀ W, Lw W → _) := fun W hW => parse_ok a1 (by omega) W hW
    have NS := Lib.hid (num_in a1)
    obtain ⟨C, hC⟩ : ∃ C : Nat → Prop, cnd a1 = C := ⟨_, rfl⟩
    have HCO : Hid (∀ j, 1 ≤ j → j ≤ 5 → C j → okm j (num a1) ∧ (⟨(Ms.fmt j (num a1)).toArray⟩ : ByteArray) = a1) := fun j j1 j5 hj => by rw [← hC] at hj; exact ⟨cnd_ok j1 j5 hj, hj.2⟩
    rw [hC] at PS
    obtain ⟨n2, hn2⟩ : ∃ n, num a1 = n := ⟨_, rfl⟩
    rw [hn2] at PS NS HCO
    clear hC hn2 hlen
    go_enter Tryd.func6, Tryd.ntmps6
    go_wp2_with fail
    go_at_call 7
    refine (new_any a0 len0 cap0 z0 w w0).mono ?_
    rintro e v1 ⟨q0, rfl, hq, ho1, hb1⟩
    have HO := Lib.hid ho1
    have HBa : Hid (Bel w v1) := hb1
    clear ho1 hb1
    go_wp2_with fail
    go_at_call 8
    refine (measure_any q0 _ HO.out).mono ?_
    rintro e u1 ⟨k, b, g, rfl, hmv, ho, hc⟩
    obtain ⟨j, n, j1, j5, hok, n0, n1, rfl, rfl, rfl⟩ := mv_form hmv
    have HBm : Hid (Bel w u1) := Bel.ch HBa.out hc (by have := hq; omega)
    have sz : (⟨(Ms.fmt j n).toArray⟩ : ByteArray).size ≤ 281474976710000 := fmt_sz j5 n0 n1
    have FM : Hid (∀ W, Itab W → _) := fun W hW => format_ok j n j1 j5 (by omega) (by omega) W hW
    have PF : Hid (∀ W, Lw W → _) := fun W hW => parse_fmt j n j1 j5 hok n0 n1 sz W hW
    obtain ⟨F, hF⟩ : ∃ F : ByteArray, (⟨(Ms.fmt j n).toArray⟩ : ByteArray) = F := ⟨_, rfl⟩
    rw [hF] at FM PF
    obtain ⟨k, hk⟩ : ∃ k : Int, (j : Int) = k := ⟨_, rfl⟩
    obtain ⟨b, hb⟩ : ∃ k : Int, bd j n = k := ⟨_, rfl⟩
    obtain ⟨g, hg⟩ : ∃ k : Int, gp j n = k := ⟨_, rfl⟩
    rw [hk, hb, hg] at FM PF ⊢
    have HKm : Hid (Bk (u1.alloc (.cells #[.int .i64 k, .int .i64 b, .int .i64 g] 26)) u1.heap.size 26 #[.int .i64 k, .int .i64 b, .int .i64 g]) := Bk.nw _ _ _
    have HB1 : Hid (Bel w (u1.alloc (.cells #[.int .i64 k, .int .i64 b, .int .i64 g] 26))) := HBm.out.al _
    clear ho hc hmv hok n0 n1 sz hF hk hb hg j1 j5
    go_wp2_with fail
    go_at_call 16
    refine (FM.out _ (HL.out.bel HB1.out).1).mono ?_
    rintro e v2 ⟨rfl, hb⟩
    have HB2 : Hid (Bel w v2) := HB1.out.tr hb
    have HK2 := Lib.hid (HKm.out.bel hb)
    clear hb
    go_wp2_with fail
    go_at_call 15
    refine (PF.out _ (HL.out.bel HB2.out)).mono ?_
    rintro e v3 ⟨rfl, hb⟩
    have HB3 : Hid (Bel w (v3.alloc (.cells #[.int .i64 k, .int .i64 b, .int .i64 g] 26))) := (HB2.out.tr hb).al _
    have HK3 := Lib.hid ((HK2.out.bel hb).al (.cells #[.int .i64 k, .int .i64 b, .int .i64 g] 26))
    have HA3 : Hid (Bk (v3.alloc (.cells #[.int .i64 k, .int .i64 b, .int .i64 g] 26)) v3.heap.size 26 #[.int .i64 k, .int .i64 b, .int .i64 g]) := Bk.nw _ _ _
    clear hb
    go_wp2_with fail
    go_at_call 15
    refine (PS.out _ (HL.out.bel HB3.out)).mono ?_
    rintro e v4 ⟨hh, hb⟩
    have HB4 : Hid (Bel w v4) := HB3.out.tr hb
    have kA := HA3.out.bel hb
    have kM := HK3.out.bel hb
    have p0 : v4.cell? ⟨v3.heap.size, 0, none⟩ = some (.int .i64 k) := kA.cell 0
    have p1 : v4.cell? ⟨v3.heap.size, 1, none⟩ = some (.int .i64 b) := kA.cell 1
    have p2 : v4.cell? ⟨v3.heap.size, 2, none⟩ = some (.int .i64 g) := kA.cell 2
    have r0 : v4.cell? ⟨u1.heap.size, 0, none⟩ = some (.int .i64 k) := kM.cell 0
    have r1 : v4.cell? ⟨u1.heap.size, 1, none⟩ = some (.int .i64 b) := kM.cell 1
    have r2 : v4.cell? ⟨u1.heap.size, 2, none⟩ = some (.int .i64 g) := kM.cell 2
    have lp := kA.lt
    have lr := kM.lt
    clear hb kA kM
    rcases hh with ⟨i, i1, i5, hi, rfl⟩ | ⟨_, rfl⟩
    · obtain ⟨ok2, fe⟩ := HCO.out i i1 i5 hi
      have F2 : Hid (∀ W, Itab W → _) := fun W hW => format_ok i n2 i1 i5 (by have := NS.out; omega) (by have := NS.out; omega) W hW
      have C2 : Hid (∀ W, _) := fun W => check_ok _ _ _ (mv_of i n2 i1 i5 ok2) W
      rw [fe] at F2
      obtain ⟨k', hk⟩ : ∃ k : Int, (i : Int) = k := ⟨_, rfl⟩
      obtain ⟨b', hb⟩ : ∃ k : Int, bd i n2 = k := ⟨_, rfl⟩
      obtain ⟨g', hg⟩ : ∃ k : Int, gp i n2 = k := ⟨_, rfl⟩
      rw [hk, hb, hg] at F2 C2 ⊢
      have HB5 : Hid (Bel w (v4.alloc (.cells #[.int .i64 k', .int .i64 b', .int .i64 g'] 26))) := HB4.out.al _
      have HK5 : Hid (Bk (v4.alloc (.cells #[.int .i64 k', .int .i64 b', .int .i64 g'] 26)) v4.heap.size 26 #[.int .i64 k', .int .i64 b', .int .i64 g']) := Bk.nw _ _ _
      clear hk hb hg ok2 fe hi
      go_wp2_with fail
      go_at_call 16
      refine (F2.out _ (HL.out.bel HB5.out).1).mono ?_
      rintro e v5 ⟨rfl, hb⟩
      have HB6 : Hid (Bel w v5) := HB5.out.tr hb
      have kC := HK5.out.bel hb
      have c0 : v5.cell? ⟨v4.heap.size, 0, none⟩ = some (.int .i64 k') := kC.cell 0
      have c1 : v5.cell? ⟨v4.heap.size, 1, none⟩ = some (.int .i64 b') := kC.cell 1
      have c2 : v5.cell? ⟨v4.heap.size, 2, none⟩ = some (.int .i64 g') := kC.cell 2
      clear hb kC
      go_wp2_with fail
      go_at_call 17
      refine (C2.out _).mono ?_
      rintro e v6 ⟨rfl, hb⟩
      have HB7 : Hid (Bel w v6) := HB6.out.tr hb
      clear hb
      go_wp2_with (go_at_call 12; refine (AW.out _ HB7.out).mono ?_; rintro e v11 ⟨rfl, h11⟩)
      go_ret
      exact ⟨rfl, (HB7.out.tr h11).bl⟩
    · have HB5 : Hid (Bel w (v4.alloc (.cells #[.int .i64 0, .int .i64 0, .int .i64 0] 26))) := HB4.out.al _
      go_wp2_with (go_at_call 12; refine (AW.out _ HB5.out).mono ?_; rintro e v11 ⟨rfl, h11⟩)
      go_ret
      exact ⟨rfl, (HB5.out.tr h11).bl⟩

theorem door_met (os : Os) (args : Array Value) : laidMetH Tryd.prog [("math/bits.deBruijn32tab", Rows.laid_math_bits_deBruijn32tab), ("math/bits.deBruijn64tab", Rows.laid_math_bits_deBruijn64tab), ("internal/strconv.uint64pow10", Rows.laid_internal_strconv_uint64pow10), ("strconv.ErrRange", Rows.laid_strconv_ErrRange), ("strconv.ErrSyntax", Rows.laid_strconv_ErrSyntax)] ((World.doorLaid Tryd.prog 400 os).forCall (fun _ _ => 0) ⟨#[], args, []⟩).memory :=
  laidMetH_of_parts3 (fuel := 8) (laidMet_of_run' 8 (by kernel_rfl) (by kernel_rfl)) (by kernel_rfl) (by kernel_rfl)
set_option maxRecDepth 100000 in
theorem lifted (os : Os) (started : os.Started) (H : Type) (enc : TypeId × Value → H) :
    ReturnsInHanded {} Tryd.checked os 6 .any (fun w args => (Rows.measureTextsSpec.pre enc Tryd.prog Tryd.f6 [] false w args ∧ laidMetH Tryd.prog [("math/bits.deBruijn32tab", Rows.laid_math_bits_deBruijn32tab), ("math/bits.deBruijn64tab", Rows.laid_math_bits_deBruijn64tab), ("internal/strconv.uint64pow10", Rows.laid_internal_strconv_uint64pow10), ("strconv.ErrRange", Rows.laid_strconv_ErrRange), ("strconv.ErrSyntax", Rows.laid_strconv_ErrSyntax)] w) ∧ sizedMet enc Tryd.prog Tryd.f6 (OpenSpec.ofChange Rows.measureTextsSpec) false w args)
      (Rows.measureTextsSpec.post enc Tryd.prog Tryd.f6 false true false false) := by
  refine returnsInHanded_of_change_and (C := Tryd.checked) (X := fun w _ => laidMetH Tryd.prog [("math/bits.deBruijn32tab", Rows.laid_math_bits_deBruijn32tab), ("math/bits.deBruijn64tab", Rows.laid_math_bits_deBruijn64tab), ("internal/strconv.uint64pow10", Rows.laid_internal_strconv_uint64pow10), ("strconv.ErrRange", Rows.laid_strconv_ErrRange), ("strconv.ErrSyntax", Rows.laid_strconv_ErrSyntax)] w) (fun _ _ _ hh h => h.of_heap hh) own started (by kernel_rfl) Tryd.func6
    (ChangeSpec.witness_shaped (enc := enc) (C := Tryd.checked) (os := os) (X := fun w _ => laidMetH Tryd.prog [("math/bits.deBruijn32tab", Rows.laid_math_bits_deBruijn32tab), ("math/bits.deBruijn64tab", Rows.laid_math_bits_deBruijn64tab), ("internal/strconv.uint64pow10", Rows.laid_internal_strconv_uint64pow10), ("strconv.ErrRange", Rows.laid_strconv_ErrRange), ("strconv.ErrSyntax", Rows.laid_strconv_ErrSyntax)] w) false (World.doorLaid Tryd.prog 400 os) #[.slice none 0 0, .string ByteArray.empty] 8 rfl (World.shaped_of_RefB (by kernel_rfl) (by kernel_rfl)) (by kernel_rfl) (by kernel_rfl) (by kernel_rfl) (door_met os _)) ?_
  intro W base args ds gs before hval0 hW _ _ hL hsz
  have hval : ∀ (j : Nat) t v, Tryd.f6.params[j]? = some t → args[j]? = some v → Value.okWide Tryd.prog W .any base t v := hval0
  have hW' := hW
  obtain ⟨p, q, hA0, hV, rfl, hfz, hnd⟩ := hW
  have hA : DataW.TrodAll enc Tryd.prog W 0 (fun _ => true) true Tryd.f6.params.toList args.toList ds p := hA0
  rw [Tryd.params6] at hA hval
  obtain ⟨v0, vs0, d0, ds0, p0, q0, hargs, rfl, rfl, h0, r0⟩ := trodAll_cons hA
  obtain ⟨v1, vs1, d1, ds1, p1, q1, rfl, rfl, rfl, h1, r1⟩ := trodAll_cons r0
  obtain ⟨rfl, rfl, rfl⟩ := trodAll_nil r1
  obtain rfl : args = #[v0, v1] := by cases args; simp_all
  obtain ⟨rfl, rfl⟩ := trodVars_none hV
  obtain ⟨a0, len0, cap0, rfl⟩ := okWide_slice Tryd.underlying22 (hval 0 22 v0 rfl rfl)
  have k0 := h0
  have lt0 : ∀ x ∈ p0, x.block < W.heap.size := by obtain ⟨m, hm⟩ := k0; exact DataW.trod_lt m _ _ _ hm
  obtain ⟨z0, w0⟩ : ∃ zs, IsRow .i64 W a0 len0 cap0 zs := by
    obtain ⟨fuel, hf⟩ := h0
    rcases open_ints Tryd.underlying22 Tryd.underlying3 (by kernel_rfl) hf with ⟨hcs, _⟩ | ⟨x, l, c, zs, hcs, _, hl, hm, hz, _, hcell, hwz⟩
    · simp [Value.cells] at hcs
      obtain ⟨rfl, rfl, rfl⟩ := hcs
      exact ⟨[], .inl ⟨rfl, rfl, rfl, rfl⟩⟩
    · simp [Value.cells] at hcs
      obtain ⟨rfl, rfl, rfl⟩ := hcs
      exact ⟨zs, .inr ⟨_, rfl, hl, hm, by simpa using hz, hcell, hwz⟩⟩
  obtain ⟨a1, rfl, rfl, rfl, w1⟩ := open_string Tryd.underlying9 (hval 1 9 v1 rfl rfl) h1
  clear hA0 hval0
  refine (walk a0 len0 cap0 z0 a1 W (Rr.lw_of hL) w0 w1).mono fun e W' ⟨he, bel⟩ => ?_
  subst he
  exact ⟨_, rfl, _, _, _, [], _, [], hW', trodAll_mk1 (shut_bool Tryd.underlying4 _), (trodAll_cons_mk (Below.trod laidOut (by kernel_rfl) (of_decide_eq_true (by kernel_rfl)) k0 bel lt0) (trodAll_cons_mk (shut_string Tryd.underlying9 w1) trodAll_mk0)), rfl, bel.frame _, fun h => by cases h⟩

theorem over : Rows.measureTextsRow.holds Tryd.pinned (OpenSpec.ofChange Rows.measureTextsSpec) :=
  OpenClaim.holds_of_wide 6 Tryd.f6 rfl rfl rfl rfl rfl rfl rfl ⟨rfl, rfl, rfl, rfl, rfl⟩ rfl rfl rfl rfl rfl (by kernel_rfl) Tryd.func6 (by kernel_rfl)
    (of_decide_eq_true (by kernel_rfl)) (by unfold Func.isWrapper; first | (rw [if_pos (by decide +kernel)]; kernel_rfl) | (rw [if_neg (by decide +kernel)]; exact ⟨rfl, rfl⟩))
    (fun os started H enc _ => lifted os started H enc)

theorem proved : Rows.MeasureTextsCardSaid :=
  Claim7.holds_tied_plain_at .later [] [.data, .data, .data, .sentinel, .sentinel] true (true, "3a4203769b91cc8d2291e2463e5293dd968d5639c0ecf2401ffa17525343a5c0") true
    over (fun _ h => by cases h) (by kernel_rfl) (fun _ h => by cases h) measureTexts_row_tie rfl ⟨rfl, rfl⟩ (by kernel_rfl) rfl
    (fun f fn hf hfn => by
      obtain rfl : f = 6 := Option.some.inj ((show Tryd.prog.funcNamed "shapesearch/shapesearchlaw17.MeasureTexts" = some 6 by kernel_rfl).symm.trans hf) |>.symm
      obtain rfl : fn = Tryd.f6 := (Option.some.inj (Tryd.func6.symm.trans hfn)).symm
      exact ⟨by kernel_rfl, fun j t ht => by
        rw [Tryd.params6] at ht
        have hm : t ∈ [22, 9] := by simpa using Array.mem_of_getElem? ht
        have hall : ([22, 9].all fun u => !Tryd.prog.wantsStandIn u) = true := by kernel_rfl
        exact (show Tryd.prog.wantsStandIn t = false by simpa using List.all_eq_true.1 hall t hm)⟩)
    (by kernel_rfl)
end Go.Proofs.YtabmpnmhjdbdmaaDoor.measureTexts
