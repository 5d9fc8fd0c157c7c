/- That the law RatioReads returns true for every input that can be read, and leaves its arguments as they were; the package variables that it lists start as the program lays them, which the card ties to the text; no further condition. -/
import Derived.Test.YtbldfchapnbdfaaDoorRows
import Derived.WalkKit
import Derived.ProofKit
import Derived.OpenShut
import Derived.LaidMore
import Derived.Stop.Joined
import Derived.SevenTiedAt
import Derived.Test.YtbldfchapnbdfaaDoorCards
import Derived.Test.YtbldfchapnbdfaaDoorTie
import Derived.Test.YtbldfchapnbdfaaDoorWords
import Derived.Test.YtbldfchapnbdfaaDoorRr4
import Derived.Test.YtbldfchapnbdfaaDoorRatioAwakeP
import Derived.Test.YtbldfchapnbdfaaDoorSrcRatio
import Derived.Test.YtbldfchapnbdfaaDoorSrcNew
import Derived.ShutString
import Derived.ChangeOld
import Derived.Below
namespace Go.Proofs.YtbldfchapnbdfaaDoor.ratioReads
open Go.ChangeShapes Go.WideShapes Go.ChangeAt Go.RowKit Wo
open Go.ChangeMaps (open_string shut_string)
set_option linter.unusedVariables false

theorem own : ownKnob Tryd.prog.godebug = none := by kernel_rfl
theorem laidOut : laidOutB Tryd.prog = true := by kernel_rfl

/-- WHAT THE WALK IS TOLD OF A SLICE OF INTEGERS THAT CAME IN: it is nil; or it leads to a row of 'cap' cells, the numbers 'zs' (the first 'len' are its elements, the rest its spare room), each fitting its kind. -/
def IsRow (k : IntKind) (w : World) (a : Option Addr) (len cap : Nat) (zs : List Int) : Prop :=
  (a = none ∧ len = 0 ∧ cap = 0 ∧ zs = []) ∨
  ∃ x, a = some x ∧ len ≤ cap ∧ cap ≤ maxLen ∧ zs.length = cap ∧ (∀ i, i < zs.length → w.cell? (x.add i) = some (.int k (zs.getD i 0))) ∧ ∀ n ∈ zs, (Lit.int k n).wf = true

section
open Go.Proofs.YtbldfchapnbdfaaDoor.Ra Go.Proofs.YtbldfchapnbdfaaDoor.Rr
theorem po_back (n d : Int) (h : rv n d = true) : po ⟨(fmt n d).toArray⟩ = .tuple #[.agg #[.int .i64 n, .int .i64 d], .int .i64 0] := by
  have e : (⟨(fmt n d).toArray⟩ : ByteArray).data.toList = fmt n d := List.toList_toArray
  have p := pr_fmt n d h
  unfold po
  rw [e, p.1, p.2, if_pos ⟨h, rfl⟩]
theorem po_cases (s : ByteArray) : (∃ X Y : Int, po s = .tuple #[.agg #[.int .i64 X, .int .i64 Y], .int .i64 0] ∧ rv X Y = true ∧ (⟨(fmt X Y).toArray⟩ : ByteArray) = s) ∨ po s = .tuple #[.agg #[.int .i64 0, .int .i64 0], .int .i64 3] := by
  unfold po
  split
  · rename_i h; exact .inl ⟨_, _, rfl, h.1, h.2⟩
  · exact .inr rfl
end
open Go.Proofs.YtbldfchapnbdfaaDoor.Ra Go.Proofs.YtbldfchapnbdfaaDoor.Rr Go.Proofs.YtbldfchapnbdfaaDoor.Wo Go.Proofs.YtbldfchapnbdfaaDoor.Sr in
set_option maxHeartbeats 16000000 in
set_option maxRecDepth 100000 in
theorem walk (a0 : Option Addr) (len0 cap0 : Nat) (z0 : List Int) (a1 : ByteArray) (w : World) (hL : Rr.Lw w) (w0 : IsRow .i64 w a0 len0 cap0 z0) (w1 : a1.size ≤ maxLen) :
    Calls Tryd.prog 3 #[.slice a0 len0 cap0, .string a1] w fun e w' => e = .returned (.bool true) ∧ Below w.heap.size w w' := by
  have HL := Lib.hid hL
  clear hL
  rcases Nat.lt_or_ge 60 a1.size with hlen | hlen
  · have q : (60 : Int) < (a1.size : Int) := by omega
    go_enter Tryd.func3, Tryd.ntmps3
    go_wp2_with fail
    go_at_call 4
    refine (awake_any _).mono ?_
    rintro e w1 ⟨rfl, hb⟩
    go_wp2
    go_ret
    exact ⟨rfl, Bel.bl hb⟩
  · have q : ¬ (60 : Int) < (a1.size : Int) := by omega
    have HP : Hid (∀ W, Lw W → Calls Tryd.prog 7 #[.string a1] W fun e w' => e = .returned (po a1) ∧ Bel W w') := Lib.hid (parse_any a1 hlen)
    have HLEN := Lib.hid hlen
    clear hlen
    go_enter Tryd.func3, Tryd.ntmps3
    go_wp2_with fail
    go_at_call 5
    refine (new_any a0 len0 cap0 z0 w w0).mono ?_
    rintro e w1 ⟨g, rfl, hg, ho1, hb1⟩
    have HO1 := Lib.hid ho1
    have HB1 := Lib.hid hb1
    clear ho1 hb1 w0
    go_wp2_with fail
    go_at_call 6
    refine (ratio_any g _ HO1.out).mono ?_
    rintro e w2 ⟨n, d, rfl, hv1, ho, hc⟩
    have HB2 : Hid (Bel w w2) := Bel.ch HB1.out hc hg
    have HV1 := Lib.hid hv1
    clear ho hc hv1 HO1 hg
    obtain ⟨F, hF⟩ : ∃ F : ByteArray, (⟨(fmt n d).toArray⟩ : ByteArray) = F := ⟨_, rfl⟩
    have hF1 : F.size ≤ 60 := by rw [← hF]; show (fmt n d).toArray.size ≤ 60; rw [List.size_toArray]; exact fmt_len n d HV1.out
    have HF : Hid (∀ W, Lw W → Calls Tryd.prog 8 #[.agg #[.int .i64 n, .int .i64 d]] W fun e w' => e = .returned (.string F) ∧ Bel W w') := by
      rw [← hF]; exact Lib.hid (fun W hW => format_any n d HV1.out W hW.1)
    have HB : Hid (∀ W, Lw W → Calls Tryd.prog 7 #[.string F] W fun e w' => e = .returned (.tuple #[.agg #[.int .i64 n, .int .i64 d], .int .i64 0]) ∧ Bel W w') := by
      refine Lib.hid (fun W hW => ?_)
      have := parse_any F hF1 W hW
      rw [← hF, po_back n d HV1.out] at this
      rw [← hF]
      exact this
    clear hF hF1
    have HBA : Hid (Bel w (w2.alloc (.cells #[.int .i64 n, .int .i64 d] 25))) := HB2.out.al _
    have HA1 := Lib.hid (Bk.nw w2 25 #[.int .i64 n, .int .i64 d])
    go_wp2_with fail
    have a1c : (w2.alloc (.cells #[.int .i64 n, .int .i64 d] 25)).cell? ⟨w2.heap.size, 0, none⟩ = some (.int .i64 n) := HA1.out.cell 0
    have a2c : (w2.alloc (.cells #[.int .i64 n, .int .i64 d] 25)).cell? ⟨w2.heap.size, 1, none⟩ = some (.int .i64 d) := HA1.out.cell 1
    go_wp2_with fail
    go_at_call 8
    refine (HF.out _ (HL.out.bel HBA.out)).mono ?_
    rintro e w3 ⟨rfl, hb⟩
    have HB3 : Hid (Bel w w3) := HBA.out.tr hb
    have HA3 := Lib.hid (HA1.out.bel hb)
    clear hb a1c a2c HA1 HF
    go_wp2_with fail
    go_at_call 7
    refine (HB.out _ (HL.out.bel HB3.out)).mono ?_
    rintro e w4 ⟨rfl, hb⟩
    have HB4 : Hid (Bel w (w4.alloc (.cells #[.int .i64 n, .int .i64 d] 25))) := (HB3.out.tr hb).al _
    have HA4 := Lib.hid ((HA3.out.bel hb).al (.cells #[.int .i64 n, .int .i64 d] 25))
    have HC4 := Lib.hid (Bk.nw w4 25 #[.int .i64 n, .int .i64 d])
    clear hb HA3 HB
    go_wp2_with fail
    go_at_call 7
    refine (HP.out _ (HL.out.bel HB4.out)).mono ?_
    rintro e w5 ⟨rfl, hb⟩
    have HB5 : Hid (Bel w w5) := HB4.out.tr hb
    have HA5 := Lib.hid (HA4.out.bel hb)
    have HC5 := Lib.hid (HC4.out.bel hb)
    clear hb HA4 HC4 HP
    rcases po_cases a1 with ⟨X, Y, hpo, hv, hs⟩ | hpo
    · rw [hpo]
      have HA6 := Lib.hid (HA5.out.al (.cells #[.int .i64 X, .int .i64 Y] 25))
      have HC6 := Lib.hid (HC5.out.al (.cells #[.int .i64 X, .int .i64 Y] 25))
      have HD6 := Lib.hid (Bk.nw w5 25 #[.int .i64 X, .int .i64 Y])
      have HF2 : Hid (∀ W, Lw W → Calls Tryd.prog 8 #[.agg #[.int .i64 X, .int .i64 Y]] W fun e w' => e = .returned (.string a1) ∧ Bel W w') := by
        rw [← hs]; exact Lib.hid (fun W hW => format_any X Y hv W hW.1)
      have HVD := Lib.hid (fun W => valid_any X Y W)
      rw [hv] at HVD
      have HB6 : Hid (Bel w (w5.alloc (.cells #[.int .i64 X, .int .i64 Y] 25))) := HB5.out.al _
      have c1 : (w5.alloc (.cells #[.int .i64 X, .int .i64 Y] 25)).cell? ⟨w2.heap.size, 0, none⟩ = some (.int .i64 n) := HA6.out.cell 0
      have c2 : (w5.alloc (.cells #[.int .i64 X, .int .i64 Y] 25)).cell? ⟨w2.heap.size, 1, none⟩ = some (.int .i64 d) := HA6.out.cell 1
      have c3 : (w5.alloc (.cells #[.int .i64 X, .int .i64 Y] 25)).cell? ⟨w4.heap.size, 0, none⟩ = some (.int .i64 n) := HC6.out.cell 0
      have c4 : (w5.alloc (.cells #[.int .i64 X, .int .i64 Y] 25)).cell? ⟨w4.heap.size, 1, none⟩ = some (.int .i64 d) := HC6.out.cell 1
      have c5 : (w5.alloc (.cells #[.int .i64 X, .int .i64 Y] 25)).cell? ⟨w5.heap.size, 0, none⟩ = some (.int .i64 X) := HD6.out.cell 0
      have c6 : (w5.alloc (.cells #[.int .i64 X, .int .i64 Y] 25)).cell? ⟨w5.heap.size, 1, none⟩ = some (.int .i64 Y) := HD6.out.cell 1
      clear hpo hv hs
      go_wp2_with fail
      go_at_call 9
      refine (HVD.out _).mono ?_
      rintro e w6 ⟨rfl, hb⟩
      have HB7 : Hid (Bel w w6) := HB6.out.tr hb
      have HD7 := Lib.hid (HD6.out.bel hb)
      have c7 : w6.cell? ⟨w5.heap.size, 0, none⟩ = some (.int .i64 X) := HD7.out.cell 0
      have c8 : w6.cell? ⟨w5.heap.size, 1, none⟩ = some (.int .i64 Y) := HD7.out.cell 1
      clear hb c1 c2 c3 c4 c5 c6 HVD
      go_wp2_with fail
      go_at_call 8
      refine (HF2.out _ (HL.out.bel HB7.out)).mono ?_
      rintro e w7 ⟨rfl, hb⟩
      have HB8 : Hid (Bel w w7) := HB7.out.tr hb
      clear hb c7 c8 HF2
      go_wp2_with fail
      go_at_call 4
      refine (awake_any _).mono ?_
      rintro e w8 ⟨rfl, hb⟩
      have HB9 : Hid (Bel w w8) := HB8.out.tr hb
      clear hb
      go_wp2
      go_ret
      exact ⟨rfl, Bel.bl HB9.out⟩
    · rw [hpo]
      have HA6 := Lib.hid (HA5.out.al (.cells #[.int .i64 0, .int .i64 0] 25))
      have HC6 := Lib.hid (HC5.out.al (.cells #[.int .i64 0, .int .i64 0] 25))
      have HB6 : Hid (Bel w (w5.alloc (.cells #[.int .i64 0, .int .i64 0] 25))) := HB5.out.al _
      have c1 : (w5.alloc (.cells #[.int .i64 0, .int .i64 0] 25)).cell? ⟨w2.heap.size, 0, none⟩ = some (.int .i64 n) := HA6.out.cell 0
      have c2 : (w5.alloc (.cells #[.int .i64 0, .int .i64 0] 25)).cell? ⟨w2.heap.size, 1, none⟩ = some (.int .i64 d) := HA6.out.cell 1
      have c3 : (w5.alloc (.cells #[.int .i64 0, .int .i64 0] 25)).cell? ⟨w4.heap.size, 0, none⟩ = some (.int .i64 n) := HC6.out.cell 0
      have c4 : (w5.alloc (.cells #[.int .i64 0, .int .i64 0] 25)).cell? ⟨w4.heap.size, 1, none⟩ = some (.int .i64 d) := HC6.out.cell 1
      clear hpo
      go_wp2_with fail
      go_at_call 4
      refine (awake_any _).mono ?_
      rintro e w8 ⟨rfl, hb⟩
      have HB9 : Hid (Bel w w8) := HB6.out.tr hb
      clear hb
      go_wp2
      go_ret
      exact ⟨rfl, Bel.bl HB9.out⟩

theorem door_met (os : Os) (args : Array Value) : laidMetH Tryd.prog [("math/bits.deBruijn32tab", Rows.laid_math_bits_deBruijn32tab), ("math/bits.deBruijn64tab", Rows.laid_math_bits_deBruijn64tab), ("internal/strconv.uint64pow10", Rows.laid_internal_strconv_uint64pow10), ("strconv.ErrRange", Rows.laid_strconv_ErrRange), ("strconv.ErrSyntax", Rows.laid_strconv_ErrSyntax)] ((World.doorLaid Tryd.prog 400 os).forCall (fun _ _ => 0) ⟨#[], args, []⟩).memory :=
  laidMetH_of_parts3 (fuel := 8) (laidMet_of_run' 8 (by kernel_rfl) (by kernel_rfl)) (by kernel_rfl) (by kernel_rfl)
set_option maxRecDepth 100000 in
theorem lifted (os : Os) (started : os.Started) (H : Type) (enc : TypeId × Value → H) :
    ReturnsInHanded {} Tryd.checked os 3 .any (fun w args => (Rows.ratioReadsSpec.pre enc Tryd.prog Tryd.f3 [] false w args ∧ laidMetH Tryd.prog [("math/bits.deBruijn32tab", Rows.laid_math_bits_deBruijn32tab), ("math/bits.deBruijn64tab", Rows.laid_math_bits_deBruijn64tab), ("internal/strconv.uint64pow10", Rows.laid_internal_strconv_uint64pow10), ("strconv.ErrRange", Rows.laid_strconv_ErrRange), ("strconv.ErrSyntax", Rows.laid_strconv_ErrSyntax)] w) ∧ sizedMet enc Tryd.prog Tryd.f3 (OpenSpec.ofChange Rows.ratioReadsSpec) false w args)
      (Rows.ratioReadsSpec.post enc Tryd.prog Tryd.f3 false true false false) := by
  refine returnsInHanded_of_change_and (C := Tryd.checked) (X := fun w _ => laidMetH Tryd.prog [("math/bits.deBruijn32tab", Rows.laid_math_bits_deBruijn32tab), ("math/bits.deBruijn64tab", Rows.laid_math_bits_deBruijn64tab), ("internal/strconv.uint64pow10", Rows.laid_internal_strconv_uint64pow10), ("strconv.ErrRange", Rows.laid_strconv_ErrRange), ("strconv.ErrSyntax", Rows.laid_strconv_ErrSyntax)] w) (fun _ _ _ hh h => h.of_heap hh) own started (by kernel_rfl) Tryd.func3
    (ChangeSpec.witness_shaped (enc := enc) (C := Tryd.checked) (os := os) (X := fun w _ => laidMetH Tryd.prog [("math/bits.deBruijn32tab", Rows.laid_math_bits_deBruijn32tab), ("math/bits.deBruijn64tab", Rows.laid_math_bits_deBruijn64tab), ("internal/strconv.uint64pow10", Rows.laid_internal_strconv_uint64pow10), ("strconv.ErrRange", Rows.laid_strconv_ErrRange), ("strconv.ErrSyntax", Rows.laid_strconv_ErrSyntax)] w) false (World.doorLaid Tryd.prog 400 os) #[.slice none 0 0, .string ByteArray.empty] 8 rfl (World.shaped_of_RefB (by kernel_rfl) (by kernel_rfl)) (by kernel_rfl) (by kernel_rfl) (by kernel_rfl) (door_met os _)) ?_
  intro W base args ds gs before hval0 hW _ _ hL hsz
  have hval : ∀ (j : Nat) t v, Tryd.f3.params[j]? = some t → args[j]? = some v → Value.okWide Tryd.prog W .any base t v := hval0
  have hW' := hW
  obtain ⟨p, q, hA0, hV, rfl, hfz, hnd⟩ := hW
  have hA : DataW.TrodAll enc Tryd.prog W 0 (fun _ => true) true Tryd.f3.params.toList args.toList ds p := hA0
  rw [Tryd.params3] at hA hval
  obtain ⟨v0, vs0, d0, ds0, p0, q0, hargs, rfl, rfl, h0, r0⟩ := trodAll_cons hA
  obtain ⟨v1, vs1, d1, ds1, p1, q1, rfl, rfl, rfl, h1, r1⟩ := trodAll_cons r0
  obtain ⟨rfl, rfl, rfl⟩ := trodAll_nil r1
  obtain rfl : args = #[v0, v1] := by cases args; simp_all
  obtain ⟨rfl, rfl⟩ := trodVars_none hV
  obtain ⟨a0, len0, cap0, rfl⟩ := okWide_slice Tryd.underlying22 (hval 0 22 v0 rfl rfl)
  have k0 := h0
  have lt0 : ∀ x ∈ p0, x.block < W.heap.size := by obtain ⟨m, hm⟩ := k0; exact DataW.trod_lt m _ _ _ hm
  obtain ⟨z0, w0⟩ : ∃ zs, IsRow .i64 W a0 len0 cap0 zs := by
    obtain ⟨fuel, hf⟩ := h0
    rcases open_ints Tryd.underlying22 Tryd.underlying3 (by kernel_rfl) hf with ⟨hcs, _⟩ | ⟨x, l, c, zs, hcs, _, hl, hm, hz, _, hcell, hwz⟩
    · simp [Value.cells] at hcs
      obtain ⟨rfl, rfl, rfl⟩ := hcs
      exact ⟨[], .inl ⟨rfl, rfl, rfl, rfl⟩⟩
    · simp [Value.cells] at hcs
      obtain ⟨rfl, rfl, rfl⟩ := hcs
      exact ⟨zs, .inr ⟨_, rfl, hl, hm, by simpa using hz, hcell, hwz⟩⟩
  obtain ⟨a1, rfl, rfl, rfl, w1⟩ := open_string Tryd.underlying9 (hval 1 9 v1 rfl rfl) h1
  clear hA0 hval0
  refine (walk a0 len0 cap0 z0 a1 W (Rr.lw_of hL) w0 w1).mono fun e W' ⟨he, bel⟩ => ?_
  subst he
  exact ⟨_, rfl, _, _, _, [], _, [], hW', trodAll_mk1 (shut_bool Tryd.underlying4 _), (trodAll_cons_mk (Below.trod laidOut (by kernel_rfl) (of_decide_eq_true (by kernel_rfl)) k0 bel lt0) (trodAll_cons_mk (shut_string Tryd.underlying9 w1) trodAll_mk0)), rfl, bel.frame _, fun h => by cases h⟩

theorem over : Rows.ratioReadsRow.holds Tryd.pinned (OpenSpec.ofChange Rows.ratioReadsSpec) :=
  OpenClaim.holds_of_wide 3 Tryd.f3 rfl rfl rfl rfl rfl rfl rfl ⟨rfl, rfl, rfl, rfl, rfl⟩ rfl rfl rfl rfl rfl (by kernel_rfl) Tryd.func3 (by kernel_rfl)
    (of_decide_eq_true (by kernel_rfl)) (by unfold Func.isWrapper; first | (rw [if_pos (by decide +kernel)]; kernel_rfl) | (rw [if_neg (by decide +kernel)]; exact ⟨rfl, rfl⟩))
    (fun os started H enc _ => lifted os started H enc)

theorem proved : Rows.RatioReadsCardSaid :=
  Claim7.holds_tied_plain_at .later [] [.data, .data, .data, .sentinel, .sentinel] true (true, "64b516c545cc2d6d35fa651d243615676aec3a1143ab3d854b7dc6d5cb494394") true
    over (fun _ h => by cases h) (by kernel_rfl) (fun _ h => by cases h) ratioReads_row_tie rfl ⟨rfl, rfl⟩ (by kernel_rfl) rfl
    (fun f fn hf hfn => by
      obtain rfl : f = 3 := Option.some.inj ((show Tryd.prog.funcNamed "shapesearch/shapesearchlaw01.RatioReads" = some 3 by kernel_rfl).symm.trans hf) |>.symm
      obtain rfl : fn = Tryd.f3 := (Option.some.inj (Tryd.func3.symm.trans hfn)).symm
      exact ⟨by kernel_rfl, fun j t ht => by
        rw [Tryd.params3] at ht
        have hm : t ∈ [22, 9] := by simpa using Array.mem_of_getElem? ht
        have hall : ([22, 9].all fun u => !Tryd.prog.wantsStandIn u) = true := by kernel_rfl
        exact (show Tryd.prog.wantsStandIn t = false by simpa using List.all_eq_true.1 hall t hm)⟩)
    (by kernel_rfl)
end Go.Proofs.YtbldfchapnbdfaaDoor.ratioReads
