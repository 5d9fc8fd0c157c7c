/- That the law RatioRounds returns true for every input that can be read, and leaves its arguments as they were; the package variables that it lists start as the program lays them, which the card ties to the text; no further condition. -/
import Derived.Test.YtmpkjlifcdobiaaDoorRows
import Derived.WalkKit
import Derived.ProofKit
import Derived.OpenShut
import Derived.LaidMore
import Derived.Stop.Joined
import Derived.SevenTiedAt
import Derived.Test.YtmpkjlifcdobiaaDoorCards
import Derived.Test.YtmpkjlifcdobiaaDoorTie
import Derived.Test.YtmpkjlifcdobiaaDoorWords
import Derived.Test.YtmpkjlifcdobiaaDoorRatioMath
import Derived.Test.YtmpkjlifcdobiaaDoorRatioAwake
import Derived.Test.YtmpkjlifcdobiaaDoorRatioLess
import Derived.Test.YtmpkjlifcdobiaaDoorSrcRatio
import Derived.Test.YtmpkjlifcdobiaaDoorSrcNew
import Derived.ShutString
import Derived.ChangeOld
import Derived.Below
namespace Go.Proofs.YtmpkjlifcdobiaaDoor.ratioRounds
open Go.ChangeShapes Go.WideShapes Go.ChangeAt Go.RowKit Wo
open Go.ChangeMaps (open_string shut_string)
set_option linter.unusedVariables false

theorem own : ownKnob Tryd.prog.godebug = none := by kernel_rfl
theorem laidOut : laidOutB Tryd.prog = true := by kernel_rfl

/-- WHAT THE WALK IS TOLD OF A SLICE OF INTEGERS THAT CAME IN: it is nil; or it leads to a row of 'cap' cells, the numbers 'zs' (the first 'len' are its elements, the rest its spare room), each fitting its kind. -/
def IsRow (k : IntKind) (w : World) (a : Option Addr) (len cap : Nat) (zs : List Int) : Prop :=
  (a = none ∧ len = 0 ∧ cap = 0 ∧ zs = []) ∨
  ∃ x, a = some x ∧ len ≤ cap ∧ cap ≤ maxLen ∧ zs.length = cap ∧ (∀ i, i < zs.length → w.cell? (x.add i) = some (.int k (zs.getD i 0))) ∧ ∀ n ∈ zs, (Lit.int k n).wf = true

open Go.Proofs.YtmpkjlifcdobiaaDoor.Ra Go.Proofs.YtmpkjlifcdobiaaDoor.Wo Go.Proofs.YtmpkjlifcdobiaaDoor.Sr in
set_option maxHeartbeats 8000000 in
set_option maxRecDepth 100000 in
theorem walk (a0 : Option Addr) (len0 cap0 : Nat) (z0 : List Int) (w : World) (w0 : IsRow .i64 w a0 len0 cap0 z0) :
    Calls Tryd.prog 7 #[.slice a0 len0 cap0] w fun e w' => e = .returned (.bool true) ∧ Below w.heap.size w w' := by
  go_enter Tryd.func7, Tryd.ntmps7
  go_wp2_with fail
  go_at_call 12
  refine (new_any a0 len0 cap0 z0 w w0).mono ?_
  rintro e w1 ⟨g, rfl, hg, ho1, hb1⟩
  have HO1 := Lib.hid ho1
  have HB1 := Lib.hid hb1
  clear ho1 hb1
  go_wp2_with fail
  go_at_call 13
  refine (ratio_any g _ HO1.out).mono ?_
  rintro e w2 ⟨n, d, rfl, hv, ho2, hc2⟩
  have HB2 : Hid (Bel w w2) := Bel.ch HB1.out hc2 hg
  have BA : Bk (w2.alloc (.cells #[.int .i64 n, .int .i64 d] 23)) w2.heap.size 23 #[.int .i64 n, .int .i64 d] := Bk.nw _ _ _
  have HBA := Lib.hid BA
  have rv0 := of_rv hv
  have rf := round_facts rv0
  have ri := rv0.1
  have n0 := ri.1
  have n1 := ri.2.1
  have d0 := ri.2.2.1
  have d1 := ri.2.2.2
  have q0 := rf.1
  have q1 := rf.2.1
  have HRF := Lib.hid rf
  have HRV := Lib.hid rv0
  have HFl := Lib.hid (floor_any n d hv)
  have HCe := Lib.hid (ceil_any n d hv)
  clear ho2 hc2 BA rf rv0 ri HO1 HB1 hg w0
  have c0 : (w2.alloc (.cells #[.int .i64 n, .int .i64 d] 23)).cell? ⟨w2.heap.size, 0, none⟩ = some (.int .i64 n) := HBA.out.cell 0
  have c1 : (w2.alloc (.cells #[.int .i64 n, .int .i64 d] 23)).cell? ⟨w2.heap.size, 1, none⟩ = some (.int .i64 d) := HBA.out.cell 1
  generalize hhi : (if n % d = 0 then n / d else n / d + 1) = hi at *
  have HHI := Lib.hid hhi
  clear hhi
  go_upto_region 3 with fail
  go_cut [5, 6] (fun s5 s6 wx => ∃ (W : World), W = wx ∧ s5 = .int .i64 (n / d) ∧ s6 = .int .i64 hi ∧ Bel (w2.alloc (.cells #[.int .i64 n, .int .i64 d] 23)) wx)
  case first =>
    go_region_held3 (fun w' => w'.cell? ⟨w2.heap.size, 0, none⟩ = some (.int .i64 n) ∧ w'.cell? ⟨w2.heap.size, 1, none⟩ = some (.int .i64 d))
      ((refine ⟨?_, ?_⟩) <;> (repeat (first | exact c0 | exact c1 | (with_reducible refine kp_al ?_ _) | (with_reducible refine kp_drwN ?_ _) | (with_reducible refine kp_drw ?_) | (with_reducible refine hp2.kp ?_) | (with_reducible refine hp1.kp ?_))))
      (first
        | (go_at_call 17; refine (HFl.out _).mono ?_; rintro r p1 ⟨rfl, hp1⟩)
        | (go_at_call 19; refine (HCe.out _).mono ?_; rintro r p2 ⟨rfl, hp2⟩))
    all_goals (go_wp2_with fail; go_meet; exact ⟨_, rfl, rfl, rfl, (by repeat (first | exact Bel.rf | (with_reducible refine Bel.drwN ?_ _) | (with_reducible refine Bel.drw ?_) | (with_reducible refine Bel.al ?_ _) | ((with_reducible refine Bel.st2 ?_ ?_ _); (show _ ≤ _); (simp only []; omega)) | refine Bel.tr ?_ (by assumption)))⟩)
  case rest =>
    obtain ⟨wx, hwx, rfl, rfl, hbx⟩ := hcut
    subst hwx
    have BX := HBA.out.bel hbx
    have HBX := Lib.hid (((HB2.out).al _).tr hbx)
    clear hbx c0 c1
    have x0 : wx.cell? ⟨w2.heap.size, 0, none⟩ = some (.int .i64 n) := BX.cell 0
    have x1 : wx.cell? ⟨w2.heap.size, 1, none⟩ = some (.int .i64 d) := BX.cell 1
    have HBXc := HBX
    have KM1 : Hid (∀ W, Calls Tryd.prog 29 #[.int .i64 (n / d), .int .i64 1] W fun e w' => e = .returned (.tuple #[.agg #[.int .i64 (n / d), .int .i64 1], .int .i64 0]) ∧ Bel W w') := fun W => by
      have g1 := gd_one (n / d)
      have := make_in (n / d) 1 W q0 (by decide) (by rw [g1, Int.ediv_one]; exact rin_yes ⟨q0, by omega, by decide, by decide⟩) (by omega) (by decide)
      rw [g1, Int.ediv_one] at this
      exact this
    have rvl : rv (n / d) 1 = true := rv_yes ⟨⟨q0, by omega, by decide, by decide⟩, gd_one _⟩
    have KL1 : Hid (∀ W, Calls Tryd.prog 27 #[.agg #[.int .i64 n, .int .i64 d], .agg #[.int .i64 (n / d), .int .i64 1]] W fun r w' => r = .returned (.bool false) ∧ Bel W w') :=
      fun W => less_as n d (n / d) 1 _ false (rcmp_in hv rvl) (cmpI_ge HRF.out.2.2.1) W
    rcases HRF.out.2.2.2 with ⟨hd, hm, hn⟩ | ⟨hd, hm, hn, hl⟩
    · have hie : hi = n / d := by rw [← HHI.out, if_pos hm]
      subst hie
      have KM2 := KM1
      have KL2 : Hid (∀ W, Calls Tryd.prog 27 #[.agg #[.int .i64 (n / d), .int .i64 1], .agg #[.int .i64 n, .int .i64 d]] W fun r w' => r = .returned (.bool false) ∧ Bel W w') :=
        fun W => less_as (n / d) 1 n d _ false (rcmp_in rvl hv) (cmpI_ge (by rw [hn, hd]; exact Int.le_refl _)) W
      have bd : (d == 1) = true := by simpa using hd
      have HH := Lib.hid hd
      clear hd hm hn rvl
      go_wp2_with fail
      go_at_call 29
      refine (KM1.out _).mono ?_
      rintro e v1 ⟨rfl, hm1⟩
      have B1 := BX.bel hm1
      have y0 : v1.cell? ⟨w2.heap.size, 0, none⟩ = some (.int .i64 n) := B1.cell 0
      have y1 : v1.cell? ⟨w2.heap.size, 1, none⟩ = some (.int .i64 d) := B1.cell 1
      have l1 := B1.lt
      go_wp2_with fail
      go_at_call 27
      refine (KL1.out _).mono ?_
      rintro e v2 ⟨rfl, hm2⟩
      have B2 := (B1.al _).bel hm2
      have y2 : v2.cell? ⟨w2.heap.size, 0, none⟩ = some (.int .i64 n) := B2.cell 0
      have y3 : v2.cell? ⟨w2.heap.size, 1, none⟩ = some (.int .i64 d) := B2.cell 1
      go_wp2_with fail
      go_at_call 29
      refine (KM2.out _).mono ?_
      rintro e v3 ⟨rfl, hm3⟩
      have B3 := B2.bel hm3
      have y4 : v3.cell? ⟨w2.heap.size, 0, none⟩ = some (.int .i64 n) := B3.cell 0
      have y5 : v3.cell? ⟨w2.heap.size, 1, none⟩ = some (.int .i64 d) := B3.cell 1
      have l3 := B3.lt
      go_wp2_with fail
      go_at_call 27
      refine (KL2.out _).mono ?_
      rintro e v4 ⟨rfl, hm4⟩
      go_wp2_with (first | (go_at_call 11; refine (awake_any _).mono ?_; rintro e w9 ⟨rfl, hb9⟩))
      have hww := HBX.out
      go_ret
      exact ⟨rfl, ((by repeat (first | exact Bel.rf | (with_reducible refine Bel.drwN ?_ _) | (with_reducible refine Bel.drw ?_) | (with_reducible refine Bel.al ?_ _) | ((with_reducible refine Bel.st2 ?_ ?_ _); (show _ ≤ _); (simp only []; omega)) | refine Bel.tr ?_ (by assumption))) : Bel w _)⟩
    · have hie : hi = n / d + 1 := by rw [← HHI.out, if_neg hm]
      subst hie
      have KM2 : Hid (∀ W, Calls Tryd.prog 29 #[.int .i64 (n / d + 1), .int .i64 1] W fun e w' => e = .returned (.tuple #[.agg #[.int .i64 (n / d + 1), .int .i64 1], .int .i64 0]) ∧ Bel W w') := fun W => by
        have g1 := gd_one (n / d + 1)
        have := make_in (n / d + 1) 1 W (by omega) (by decide) (by rw [g1, Int.ediv_one]; exact rin_yes ⟨by omega, by omega, by decide, by decide⟩) (by omega) (by decide)
        rw [g1, Int.ediv_one] at this
        exact this
      have rvh : rv (n / d + 1) 1 = true := rv_yes ⟨⟨by omega, by omega, by decide, by decide⟩, gd_one _⟩
      have KL2 : Hid (∀ W, Calls Tryd.prog 27 #[.agg #[.int .i64 (n / d + 1), .int .i64 1], .agg #[.int .i64 n, .int .i64 d]] W fun r w' => r = .returned (.bool false) ∧ Bel W w') :=
        fun W => less_as (n / d + 1) 1 n d _ false (rcmp_in rvh hv) (cmpI_ge hn) W
      have bd : (d == 1) = false := by simpa using hd
      have be : (n / d == n / d + 1) = false := by simp; omega
      have bq : (n / d + 1 - n / d != 1) = false := by rw [show n / d + 1 - n / d = 1 by omega]; rfl
      have bq0 : (n / d + 1 - n / d != 0) = true := by rw [show n / d + 1 - n / d = 1 by omega]; rfl
      clear hm hn rvl rvh
      go_wp2_with fail
      go_at_call 29
      refine (KM1.out _).mono ?_
      rintro e v1 ⟨rfl, hm1⟩
      have B1 := BX.bel hm1
      have y0 : v1.cell? ⟨w2.heap.size, 0, none⟩ = some (.int .i64 n) := B1.cell 0
      have y1 : v1.cell? ⟨w2.heap.size, 1, none⟩ = some (.int .i64 d) := B1.cell 1
      have l1 := B1.lt
      go_wp2_with fail
      go_at_call 27
      refine (KL1.out _).mono ?_
      rintro e v2 ⟨rfl, hm2⟩
      have B2 := (B1.al _).bel hm2
      have y2 : v2.cell? ⟨w2.heap.size, 0, none⟩ = some (.int .i64 n) := B2.cell 0
      have y3 : v2.cell? ⟨w2.heap.size, 1, none⟩ = some (.int .i64 d) := B2.cell 1
      go_wp2_with fail
      go_at_call 29
      refine (KM2.out _).mono ?_
      rintro e v3 ⟨rfl, hm3⟩
      have B3 := B2.bel hm3
      have y4 : v3.cell? ⟨w2.heap.size, 0, none⟩ = some (.int .i64 n) := B3.cell 0
      have y5 : v3.cell? ⟨w2.heap.size, 1, none⟩ = some (.int .i64 d) := B3.cell 1
      have l3 := B3.lt
      go_wp2_with fail
      go_at_call 27
      refine (KL2.out _).mono ?_
      rintro e v4 ⟨rfl, hm4⟩
      go_wp2_with (first | (go_at_call 11; refine (awake_any _).mono ?_; rintro e w9 ⟨rfl, hb9⟩))
      have hww := HBX.out
      go_ret
      exact ⟨rfl, ((by repeat (first | exact Bel.rf | (with_reducible refine Bel.drwN ?_ _) | (with_reducible refine Bel.drw ?_) | (with_reducible refine Bel.al ?_ _) | ((with_reducible refine Bel.st2 ?_ ?_ _); (show _ ≤ _); (simp only []; omega)) | refine Bel.tr ?_ (by assumption))) : Bel w _)⟩

theorem door_met (os : Os) (args : Array Value) : laidMetH Tryd.prog [("math/bits.deBruijn32tab", Rows.laid_math_bits_deBruijn32tab), ("math/bits.deBruijn64tab", Rows.laid_math_bits_deBruijn64tab), ("internal/strconv.uint64pow10", Rows.laid_internal_strconv_uint64pow10)] ((World.doorLaid Tryd.prog 400 os).forCall (fun _ _ => 0) ⟨#[], args, []⟩).memory :=
  laidMetH_of_parts3 (fuel := 8) (laidMet_of_run' 8 (by kernel_rfl) (by kernel_rfl)) (by kernel_rfl) (by kernel_rfl)
set_option maxRecDepth 100000 in
theorem lifted (os : Os) (started : os.Started) (H : Type) (enc : TypeId × Value → H) :
    ReturnsInHanded {} Tryd.checked os 7 .any (fun w args => (Rows.ratioRoundsSpec.pre enc Tryd.prog Tryd.f7 [] false w args ∧ laidMetH Tryd.prog [("math/bits.deBruijn32tab", Rows.laid_math_bits_deBruijn32tab), ("math/bits.deBruijn64tab", Rows.laid_math_bits_deBruijn64tab), ("internal/strconv.uint64pow10", Rows.laid_internal_strconv_uint64pow10)] w) ∧ sizedMet enc Tryd.prog Tryd.f7 (OpenSpec.ofChange Rows.ratioRoundsSpec) false w args)
      (Rows.ratioRoundsSpec.post enc Tryd.prog Tryd.f7 false true false false) := by
  refine returnsInHanded_of_change_and (C := Tryd.checked) (X := fun w _ => laidMetH Tryd.prog [("math/bits.deBruijn32tab", Rows.laid_math_bits_deBruijn32tab), ("math/bits.deBruijn64tab", Rows.laid_math_bits_deBruijn64tab), ("internal/strconv.uint64pow10", Rows.laid_internal_strconv_uint64pow10)] w) (fun _ _ _ hh h => h.of_heap hh) own started (by kernel_rfl) Tryd.func7
    (ChangeSpec.witness_shaped (enc := enc) (C := Tryd.checked) (os := os) (X := fun w _ => laidMetH Tryd.prog [("math/bits.deBruijn32tab", Rows.laid_math_bits_deBruijn32tab), ("math/bits.deBruijn64tab", Rows.laid_math_bits_deBruijn64tab), ("internal/strconv.uint64pow10", Rows.laid_internal_strconv_uint64pow10)] w) false (World.doorLaid Tryd.prog 400 os) #[.slice none 0 0] 8 rfl (World.shaped_of_RefB (by kernel_rfl) (by kernel_rfl)) (by kernel_rfl) (by kernel_rfl) (by kernel_rfl) (door_met os _)) ?_
  intro W base args ds gs before hval0 hW _ _ hL hsz
  have hval : ∀ (j : Nat) t v, Tryd.f7.params[j]? = some t → args[j]? = some v → Value.okWide Tryd.prog W .any base t v := hval0
  have hW' := hW
  obtain ⟨p, q, hA0, hV, rfl, hfz, hnd⟩ := hW
  have hA : DataW.TrodAll enc Tryd.prog W 0 (fun _ => true) true Tryd.f7.params.toList args.toList ds p := hA0
  rw [Tryd.params7] at hA hval
  obtain ⟨v0, vs0, d0, ds0, p0, q0, hargs, rfl, rfl, h0, r0⟩ := trodAll_cons hA
  obtain ⟨rfl, rfl, rfl⟩ := trodAll_nil r0
  obtain rfl : args = #[v0] := by cases args; simp_all
  obtain ⟨rfl, rfl⟩ := trodVars_none hV
  obtain ⟨a0, len0, cap0, rfl⟩ := okWide_slice Tryd.underlying24 (hval 0 24 v0 rfl rfl)
  have k0 := h0
  have lt0 : ∀ x ∈ p0, x.block < W.heap.size := by obtain ⟨m, hm⟩ := k0; exact DataW.trod_lt m _ _ _ hm
  obtain ⟨z0, w0⟩ : ∃ zs, IsRow .i64 W a0 len0 cap0 zs := by
    obtain ⟨fuel, hf⟩ := h0
    rcases open_ints Tryd.underlying24 Tryd.underlying3 (by kernel_rfl) hf with ⟨hcs, _⟩ | ⟨x, l, c, zs, hcs, _, hl, hm, hz, _, hcell, hwz⟩
    · simp [Value.cells] at hcs
      obtain ⟨rfl, rfl, rfl⟩ := hcs
      exact ⟨[], .inl ⟨rfl, rfl, rfl, rfl⟩⟩
    · simp [Value.cells] at hcs
      obtain ⟨rfl, rfl, rfl⟩ := hcs
      exact ⟨zs, .inr ⟨_, rfl, hl, hm, by simpa using hz, hcell, hwz⟩⟩
  clear hA0 hval0
  refine (walk a0 len0 cap0 z0 W w0).mono fun e W' ⟨he, bel⟩ => ?_
  subst he
  exact ⟨_, rfl, _, _, _, [], _, [], hW', trodAll_mk1 (shut_bool Tryd.underlying4 _), (trodAll_cons_mk (Below.trod laidOut (by kernel_rfl) (of_decide_eq_true (by kernel_rfl)) k0 bel lt0) trodAll_mk0), rfl, bel.frame _, fun h => by cases h⟩

theorem over : Rows.ratioRoundsRow.holds Tryd.pinned (OpenSpec.ofChange Rows.ratioRoundsSpec) :=
  OpenClaim.holds_of_wide 7 Tryd.f7 rfl rfl rfl rfl rfl rfl rfl ⟨rfl, rfl, rfl, rfl, rfl⟩ rfl rfl rfl rfl rfl (by kernel_rfl) Tryd.func7 (by kernel_rfl)
    (of_decide_eq_true (by kernel_rfl)) (by unfold Func.isWrapper; first | (rw [if_pos (by decide +kernel)]; kernel_rfl) | (rw [if_neg (by decide +kernel)]; exact ⟨rfl, rfl⟩))
    (fun os started H enc _ => lifted os started H enc)

theorem proved : Rows.RatioRoundsCardSaid :=
  Claim7.holds_tied_plain_at .later [] [.data, .data, .data] true (true, "11adef078fe66e4a341a668750a16cfedc9afc69f03447602818c62d2f963768") true
    over (fun _ h => by cases h) (by kernel_rfl) (fun _ h => by cases h) ratioRounds_row_tie rfl ⟨rfl, rfl⟩ (by kernel_rfl) rfl
    (fun f fn hf hfn => by
      obtain rfl : f = 7 := Option.some.inj ((show Tryd.prog.funcNamed "shapesearch/shapesearchlaw01.RatioRounds" = some 7 by kernel_rfl).symm.trans hf) |>.symm
      obtain rfl : fn = Tryd.f7 := (Option.some.inj (Tryd.func7.symm.trans hfn)).symm
      exact ⟨by kernel_rfl, fun j t ht => by
        rw [Tryd.params7] at ht
        have hm : t ∈ [24] := by simpa using Array.mem_of_getElem? ht
        have hall : ([24].all fun u => !Tryd.prog.wantsStandIn u) = true := by kernel_rfl
        exact (show Tryd.prog.wantsStandIn t = false by simpa using List.all_eq_true.1 hall t hm)⟩)
    (by kernel_rfl)
end Go.Proofs.YtmpkjlifcdobiaaDoor.ratioRounds
