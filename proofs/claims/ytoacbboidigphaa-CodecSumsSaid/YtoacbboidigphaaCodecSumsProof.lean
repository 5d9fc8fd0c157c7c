/- That the law CodecSums returns true for every input that can be read, and leaves its arguments as they were; no further condition. -/
import Derived.Test.YtoacbboidigphaaRows
import Derived.WalkKit
import Derived.ProofKit
import Derived.OpenShut
import Derived.Test.YtoacbboidigphaaWords
import Derived.Test.YtoacbboidigphaaCodecArg
import Derived.ShutString
import Derived.ChangeOld
import Derived.Below
namespace Go.Proofs.Ytoacbboidigphaa.codecSums
open Go.ChangeShapes Go.WideShapes Go.ChangeAt Go.RowKit Wo
open Go.ChangeMaps (open_string shut_string)
set_option linter.unusedVariables false

theorem own : ownKnob Try.prog.godebug = none := by kernel_rfl
theorem laidOut : laidOutB Try.prog = true := by kernel_rfl

/-- WHAT THE WALK IS TOLD OF A SLICE OF INTEGERS THAT CAME IN: it is nil; or it leads to a row of 'cap' cells, the numbers 'zs' (the first 'len' are its elements, the rest its spare room), each fitting its kind. -/
def IsRow (k : IntKind) (w : World) (a : Option Addr) (len cap : Nat) (zs : List Int) : Prop :=
  (a = none ∧ len = 0 ∧ cap = 0 ∧ zs = []) ∨
  ∃ x, a = some x ∧ len ≤ cap ∧ cap ≤ maxLen ∧ zs.length = cap ∧ (∀ i, i < zs.length → w.cell? (x.add i) = some (.int k (zs.getD i 0))) ∧ ∀ n ∈ zs, (Lit.int k n).wf = true

open Go.Proofs.Ytoacbboidigphaa.Cd Go.Proofs.Ytoacbboidigphaa.Wo Go.Proofs.Ytoacbboidigphaa.By Go.Proofs.Ytoacbboidigphaa.Cr Go.Proofs.Ytoacbboidigphaa.Bm in
set_option maxHeartbeats 8000000 in
set_option maxRecDepth 100000 in
theorem walk (a0 : Option Addr) (len0 cap0 : Nat) (z0 : List Int) (a1 : Int) (a2 : Int) (w : World) (w0 : IsRow .u8 w a0 len0 cap0 z0) (w1 : (Lit.int .i64 a1).wf = true) (w2 : (Lit.int .u8 a2).wf = true) :
    Calls Try.prog 6 #[.slice a0 len0 cap0, .int .i64 a1, .int .u8 a2] w fun e w' => e = .returned (.bool true) ∧ Below w.heap.size w w' := by
  obtain ⟨B, hBl, hr, -⟩ := rd_in w0
  subst hBl
  have b1 := bounds_i64 w1
  have b2 := bounds_u8 w2
  have HR := Lib.hid hr
  have HW := Lib.hid (And.intro w0 (And.intro w1 w2))
  clear hr w0 w1 w2
  have AW : Hid (∀ W, Calls Try.prog 8 #[] W fun e w' => e = .returned (.bool true) ∧ Bel W w') := awake_any
  rcases Nat.lt_or_ge 300 B.length with h300 | h300
  · have hi : (300 : Int) < (B.length : Int) := by omega
    clear h300
    go_enter Try.func6, Try.ntmps6
    go_wp2_with (go_at_call 8; refine (AW.out _).mono ?_; rintro e w9 ⟨rfl, hb9⟩)
    go_ret
    exact ⟨rfl, hb9.bl⟩
  · have hi : ¬ (300 : Int) < (B.length : Int) := by omega
    have hi2 : (B.length : Int) ≤ 300 := by omega
    rcases Nat.eq_zero_or_pos B.length with h0 | h0
    · have t0 : ((B.length : Int) == 0) = true := by simp [h0]
      have H0 := Lib.hid h0
      clear h0 h300
      go_enter Try.func6, Try.ntmps6
      go_wp2_with (go_at_call 8; refine (AW.out _).mono ?_; rintro e w9 ⟨rfl, hb9⟩)
      go_ret
      exact ⟨rfl, hb9.bl⟩
    · have t0 : ((B.length : Int) == 0) = false := by rw [beq_eq_false_iff_ne]; omega
      rcases Classical.em (a2 = 0) with hz | hz
      · subst hz
        clear h0 h300
        go_enter Try.func6, Try.ntmps6
        go_wp2_with (go_at_call 8; refine (AW.out _).mono ?_; rintro e w9 ⟨rfl, hb9⟩)
        go_ret
        exact ⟨rfl, hb9.bl⟩
      · have t1 : (a2 == 0) = false := by simpa using hz
        obtain ⟨y, rfl⟩ := Int.eq_ofNat_of_zero_le b2.1
        have hy0 : y ≠ 0 := by omega
        have hy1 : y < 256 := by omega
        obtain ⟨ad, rfl, hab, hac⟩ := HR.out.2.2 h0
        obtain ⟨i0, hi0, hz0, hz1, hz2⟩ := info_parts info_u8
        have HI := Lib.hid (And.intro hi0 (And.intro hz0 (And.intro hz1 hz2)))
        have hmod := Sr.mod_any a1 (B.length : Int) (by omega) (by omega) b1.1 b1.2
        obtain ⟨i, hie⟩ := Int.eq_ofNat_of_zero_le (Int.emod_nonneg a1 (b := (B.length : Int)) (by omega))
        have hil := Int.emod_lt_of_pos a1 (b := (B.length : Int)) (by omega)
        rw [hie] at hmod hil
        have JM := Lib.hid hmod
        have hil2 : i < B.length := by omega
        have hbi := HR.out.byte i
        have hgi : B.getD i 0 = B[i] := by rw [List.getD_eq_getElem?_getD, List.getElem?_eq_getElem hil2]; rfl
        have hcrc := crc_set (l := B) (i := i) (d := B.getD i 0 ^^^ y) HR.out.2.1 hil2 (Nat.xor_lt_two_pow (n := 8) hbi hy1) (by rw [← hgi]; exact xor_ne hy0)
        have HCRC := Lib.hid hcrc
        have HSRC : Hid (∀ W, Rd W (some ad) B.length B → ∀ j v, (bys B)[j]? = some v → W.cell? (ad.add j) = some v) := by
          intro W hW j v hv
          have hj : j < B.length := by
            rcases Nat.lt_or_ge j B.length with h | h
            · exact h
            · rw [List.getElem?_eq_none (by rw [bys_len]; exact h)] at hv; cases hv
          obtain ⟨ad', e, _, hc⟩ := hW.2.2 h0
          cases e
          rw [bys_at hj] at hv
          cases hv
          exact hc j hj
        have HIE := Lib.hid hie
        have HGI := Lib.hid hgi
        obtain ⟨b, hbb⟩ : ∃ b, B.getD i 0 = b := ⟨_, rfl⟩
        rw [hbb] at hbi hcrc
        have HBB := Lib.hid hbb
        clear hi0 hz0 hz1 hz2 hmod hcrc hie hgi hac hbb hz b1 b2 h300
        go_enter Try.func6, Try.ntmps6
        go_upto_region 4 with (first
          | (at_builtin; refine wpList_append_own _ rfl (.tmp 21) (.tmp 22) 22 rfl w.heap.size 5 i0 (.int .u8 0) 1 1 Try.underlying22 HI.out.1 HI.out.2.1 HI.out.2.2.1 HI.out.2.2.2 rfl (by decide) (.slice (some ⟨w.heap.size, 0, none⟩) 0 0) 0 [] rfl (World.ownsRow_lit w #[] 0 (Nat.le_refl _) (by decide) rfl) ad B.length cap0 (bys B) rfl (by simp [bys_len]) (HSRC.out _ (HR.out.bel (Bel.rf.al _))) bys_one (by unfold maxLen; omega) (by omega) (by simp) ?_; intro v1 w1 hown hg hnil))
        have HO1 := Lib.hid hown
        obtain ⟨hh, cap1, hv1, hhb, hhl⟩ := HO1.out.form (show 0 < 0 + B.length by omega)
        subst hv1
        simp only [Nat.zero_add, List.nil_append] at hown
        have HO := Lib.hid hown
        have HX1 : Hid (Bel w w1) := Below.grown ((Bel.rf.al _).bl) hg (by simp) (fun b e => by cases e; exact Nat.le_refl _)
        have HRC := Lib.hid (Rd.own HO.out HR.out.2.1 rfl)
        have HS := Lib.hid (rd_set (i := i) (x := b ^^^ y) HO.out HR.out.2.1 rfl (Nat.xor_lt_two_pow (n := 8) hbi hy1))
        have c1 : w1.cell? ⟨hh, i, none⟩ = some (.int .u8 (b : Int)) := by
          rw [HO.out.cellAt i (by omega), bys_at hil2, HBB.out]
        have f1 : w1.frozen? ⟨hh, i, none⟩ = false := HO.out.frozenAt i
        have e1 : bits .xor .u8 (b : Int) (y : Int) = ((b ^^^ y : Nat) : Int) := xor_u8 hbi hy1
        obtain ⟨x, hx⟩ : ∃ x, b ^^^ y = x := ⟨_, rfl⟩
        rw [hx] at e1 HS
        have HX := Lib.hid hx
        clear hown hg hnil hx HO1
        go_upto_region 5 with (go_at_call 18; refine (JM.out _).mono ?_; rintro e w' ⟨rfl, rfl⟩)
        have HXS : Hid (Bel w (w1.setCell ⟨hh, i, none⟩ (.int .u8 (x : Int)))) := HX1.out.st (by exact hhb) _
        have hne : crc (B.set i x) ≠ crc B := by have := HCRC.out; rwa [HBB.out, HX.out] at this
        generalize hW2 : w1.setCell ⟨hh, i, none⟩ (.int .u8 (x : Int)) = W2 at *
        have HR2 := Lib.hid (HR.out.bel HXS.out)
        have S1 : Hid (Calls Try.prog 19 #[.slice (some ad) B.length cap0] W2 fun e w' => e = .returned (.int .u32 (crc B : Int)) ∧ Bel W2 w') := sum_any (some ad) cap0 B (by omega) W2 HR2.out
        have S2 : Hid (∀ W, Bel W2 W → Calls Try.prog 19 #[.slice (some ⟨hh, 0, none⟩) B.length cap1] W fun e w' => e = .returned (.int .u32 (crc (B.set i x) : Int)) ∧ Bel W w') := fun W hW => by
          have hl : (B.set i x).length = B.length := List.length_set
          have := sum_any (some ⟨hh, 0, none⟩) cap1 (B.set i x) (by omega) W (by rw [hl]; exact HS.out.bel hW)
          rwa [hl] at this
        obtain ⟨p, hp⟩ : ∃ p, crc B = p := ⟨_, rfl⟩
        obtain ⟨q, hq⟩ : ∃ q, crc (B.set i x) = q := ⟨_, rfl⟩
        rw [hp] at S1 hne
        rw [hq] at S2 hne
        have tne : ((p : Int) != (q : Int)) = true := by simp; omega
        have HP := Lib.hid hp
        have HQ := Lib.hid hq
        clear hW2 hp hq hne c1 f1 e1 HS HRC HO HR2
        go_wp2_with fail
        go_at_call 19
        refine (S1.out).mono ?_
        rintro e w3 ⟨rfl, hb3⟩
        have HB3 := Lib.hid hb3
        clear hb3
        go_wp2_with fail
        go_at_call 19
        refine (S2.out _ HB3.out).mono ?_
        rintro e w4 ⟨rfl, hb4⟩
        have HB4 := Lib.hid ((HXS.out.tr HB3.out).tr hb4)
        clear hb4
        go_wp2_with (go_at_call 8; refine (AW.out _).mono ?_; rintro e w9 ⟨rfl, hb9⟩)
        go_ret
        exact ⟨rfl, (HB4.out.tr hb9).bl⟩

set_option maxRecDepth 100000 in
theorem lifted (os : Os) (started : os.Started) (H : Type) (enc : TypeId × Value → H) :
    ReturnsInHanded {} Try.checked os 6 .any (Rows.codecSumsSpec.pre6 enc Try.prog Try.f6 Rows.codecSumsRow.domain false) (Rows.codecSumsSpec.post enc Try.prog Try.f6 false true false false) := by
  refine returnsInHanded_of_change (C := Try.checked) own started (by kernel_rfl) Try.func6
    (ChangeSpec.witness6 (enc := enc) (C := Try.checked) false ⟨#[], #[.slice none 0 0, .int .i64 0, .int .u8 0], []⟩ 8 (by kernel_rfl) (by kernel_rfl) (by kernel_rfl) (by kernel_rfl)) ?_
  intro W base args ds gs before hval0 hW hcnd _
  have hval : ∀ (j : Nat) t v, Try.f6.params[j]? = some t → args[j]? = some v → Value.okWide Try.prog W .any base t v := hval0
  have hW' := hW
  obtain ⟨p, q, hA0, hV, rfl, hfz, hnd⟩ := hW
  have hA : DataW.TrodAll enc Try.prog W 0 (fun _ => true) true Try.f6.params.toList args.toList ds p := hA0
  rw [Try.params6] at hA hval
  obtain ⟨v0, vs0, d0, ds0, p0, q0, hargs, rfl, rfl, h0, r0⟩ := trodAll_cons hA
  obtain ⟨v1, vs1, d1, ds1, p1, q1, rfl, rfl, rfl, h1, r1⟩ := trodAll_cons r0
  obtain ⟨v2, vs2, d2, ds2, p2, q2, rfl, rfl, rfl, h2, r2⟩ := trodAll_cons r1
  obtain ⟨rfl, rfl, rfl⟩ := trodAll_nil r2
  obtain rfl : args = #[v0, v1, v2] := by cases args; simp_all
  obtain ⟨rfl, rfl⟩ := trodVars_none hV
  obtain ⟨a0, len0, cap0, rfl⟩ := okWide_slice Try.underlying22 (hval 0 22 v0 rfl rfl)
  have k0 := h0
  have lt0 : ∀ x ∈ p0, x.block < W.heap.size := by obtain ⟨m, hm⟩ := k0; exact DataW.trod_lt m _ _ _ hm
  obtain ⟨z0, w0⟩ : ∃ zs, IsRow .u8 W a0 len0 cap0 zs := by
    obtain ⟨fuel, hf⟩ := h0
    rcases open_ints Try.underlying22 Try.underlying5 (by kernel_rfl) hf with ⟨hcs, _⟩ | ⟨x, l, c, zs, hcs, _, hl, hm, hz, _, hcell, hwz⟩
    · simp [Value.cells] at hcs
      obtain ⟨rfl, rfl, rfl⟩ := hcs
      exact ⟨[], .inl ⟨rfl, rfl, rfl, rfl⟩⟩
    · simp [Value.cells] at hcs
      obtain ⟨rfl, rfl, rfl⟩ := hcs
      exact ⟨zs, .inr ⟨_, rfl, hl, hm, by simpa using hz, hcell, hwz⟩⟩
  obtain ⟨a1, rfl, rfl, rfl, w1⟩ := open_int Try.underlying3 (hval 1 3 v1 rfl rfl) h1
  obtain ⟨a2, rfl, rfl, rfl, w2⟩ := open_int Try.underlying5 (hval 2 5 v2 rfl rfl) h2
  clear hA0 hval0
  refine (walk a0 len0 cap0 z0 a1 a2 W w0 w1 w2).mono fun e W' ⟨he, bel⟩ => ?_
  subst he
  exact ⟨_, rfl, _, _, _, [], _, [], hW', trodAll_mk1 (shut_bool Try.underlying4 _), (trodAll_cons_mk (Below.trod laidOut (by kernel_rfl) (of_decide_eq_true (by kernel_rfl)) k0 bel lt0) (trodAll_cons_mk (shut_int Try.underlying3 w1) (trodAll_cons_mk (shut_int Try.underlying5 w2) trodAll_mk0))), rfl, bel.frame _, fun h => by cases h⟩

theorem over : Rows.codecSumsRow.holds Try.pinned (OpenSpec.ofChange Rows.codecSumsSpec) :=
  OpenClaim.holds_of_wide 6 Try.f6 rfl rfl rfl rfl rfl rfl rfl ⟨rfl, rfl, rfl, rfl, rfl⟩ rfl rfl rfl rfl rfl (by kernel_rfl) Try.func6 (by kernel_rfl)
    (of_decide_eq_true (by kernel_rfl)) (by unfold Func.isWrapper; first | (rw [if_pos (by decide +kernel)]; kernel_rfl) | (rw [if_neg (by decide +kernel)]; exact ⟨rfl, rfl⟩))
    (fun os started H enc _ => lifted os started H enc)

theorem proved : Rows.CodecSumsSaid := over
end Go.Proofs.Ytoacbboidigphaa.codecSums
