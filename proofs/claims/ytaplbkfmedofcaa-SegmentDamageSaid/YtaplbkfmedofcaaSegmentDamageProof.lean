/- That the law SegmentDamage returns true for every input that can be read, and leaves its arguments as they were; no further condition. -/
import Derived.Test.YtaplbkfmedofcaaRows
import Derived.WalkKit
import Derived.ProofKit
import Derived.OpenShut
import Derived.Test.YtaplbkfmedofcaaWords
import Derived.Test.YtaplbkfmedofcaaSrcNew0
import Derived.Test.YtaplbkfmedofcaaSgA
import Derived.ShutString
import Derived.ChangeOld
import Derived.Below
namespace Go.Proofs.Ytaplbkfmedofcaa.segmentDamage
open Go.ChangeShapes Go.WideShapes Go.ChangeAt Go.RowKit Wo
open Go.ChangeMaps (open_string shut_string)
set_option linter.unusedVariables false

theorem own : ownKnob Try.prog.godebug = none := by kernel_rfl
theorem laidOut : laidOutB Try.prog = true := by kernel_rfl

/-- WHAT THE WALK IS TOLD OF A SLICE OF INTEGERS THAT CAME IN: it is nil; or it leads to a row of 'cap' cells, the numbers 'zs' (the first 'len' are its elements, the rest its spare room), each fitting its kind. -/
def IsRow (k : IntKind) (w : World) (a : Option Addr) (len cap : Nat) (zs : List Int) : Prop :=
  (a = none ∧ len = 0 ∧ cap = 0 ∧ zs = []) ∨
  ∃ x, a = some x ∧ len ≤ cap ∧ cap ≤ maxLen ∧ zs.length = cap ∧ (∀ i, i < zs.length → w.cell? (x.add i) = some (.int k (zs.getD i 0))) ∧ ∀ n ∈ zs, (Lit.int k n).wf = true

open Go.Proofs.Ytaplbkfmedofcaa.Pk Go.Proofs.Ytaplbkfmedofcaa.Sg Go.Proofs.Ytaplbkfmedofcaa.Wi Go.Proofs.Ytaplbkfmedofcaa.Wo Go.Proofs.Ytaplbkfmedofcaa.Sr Go.Proofs.Ytaplbkfmedofcaa.By Go.Proofs.Ytaplbkfmedofcaa.Bm Go.Proofs.Ytaplbkfmedofcaa.Cd Go.Proofs.Ytaplbkfmedofcaa.Cr in
theorem dam_seg {x L : List Int} (hv : Vx x) (hl : Vx L) {i y : Nat} (hy : y < 256) (hi : i < (seg x).length) (hne : (seg x).getD i 0 ≠ y) (h : seg L = (seg x).set i y) : False := by
  have h1 := dam (bod_byte hv) hy hi hne
  have e : (seg L).length = (seg x).length := by rw [h, List.length_set]
  have e2 := (seg_len hl).2.2
  have e3 := (seg_len hv).2.2
  have hs := seg_parts (x := L)
  rw [h, show (bod L).length = (bod x).length by omega] at hs
  unfold seg at hs
  exact h1 (by rw [hs.1, hs.2])
open Go.Proofs.Ytaplbkfmedofcaa.Pk Go.Proofs.Ytaplbkfmedofcaa.Sg Go.Proofs.Ytaplbkfmedofcaa.Wi Go.Proofs.Ytaplbkfmedofcaa.Wo Go.Proofs.Ytaplbkfmedofcaa.Sr Go.Proofs.Ytaplbkfmedofcaa.By Go.Proofs.Ytaplbkfmedofcaa.Bm Go.Proofs.Ytaplbkfmedofcaa.Cd Go.Proofs.Ytaplbkfmedofcaa.Cr in
set_option maxHeartbeats 8000000 in
set_option maxRecDepth 100000 in
theorem walk (a0 : Option Addr) (len0 cap0 : Nat) (z0 : List Int) (a1 : Int) (a2 : Int) (w : World) (w0 : IsRow .i64 w a0 len0 cap0 z0) (w1 : (Lit.int .i64 a1).wf = true) (w2 : (Lit.int .u8 a2).wf = true) :
    Calls Try.prog 4 #[.slice a0 len0 cap0, .int .i64 a1, .int .u8 a2] w fun e w' => e = .returned (.bool true) ∧ Below w.heap.size w w' := by
  have b1 := bounds_i64 w1
  have b2 := bounds_u8 w2
  clear w1 w2
  have AW : Hid (∀ W, Calls Try.prog 8 #[] W fun e w' => e = .returned (.bool true) ∧ Bel W w') := awake10_ok
  obtain ⟨i0, hi0, hz0, hz1, hz2⟩ := info_parts info_u8
  have HI := Lib.hid (And.intro hi0 (And.intro hz0 (And.intro hz1 hz2)))
  clear hi0 hz0 hz1 hz2
  go_enter Try.func4, Try.ntmps4
  go_wp2_with fail
  go_at_call 10
  refine (new_any a0 len0 cap0 z0 w w0).mono ?_
  rintro e v1 ⟨g, rfl, hg, ho1, hb1⟩
  have HO1 := Lib.hid ho1
  have HB1 := Lib.hid hb1
  clear ho1 hb1 w0
  go_wp2_with fail
  go_at_call 9
  refine (made_ok g _ HO1.out).mono ?_
  rintro e v2 ⟨h, c0, k, x, rfl, hz, hk, hkc, hv, hsz, ho2, hc2⟩
  have HB2 : Hid (Bel w v2) := Bel.ch HB1.out hc2 hg
  have HE1 : Hid (∀ W, Bel v2 W → _) := fun W hW => enc_ok h 0 c0 k x hv hk W (hz.bel hW)
  have hpl := seg_len hv
  have hpb := seg_byte hv
  have HV := Lib.hid hv
  obtain ⟨n, hn⟩ : ∃ n, (seg x).length = n := ⟨_, rfl⟩
  have HNN := Lib.hid hn
  rw [hn] at hpl
  replace hpl : 9 ≤ n ∧ n ≤ 152 := ⟨hpl.1, hpl.2.1⟩
  have hil0 : (1 : Int) ≤ (n : Int) := by omega
  have m9 : ¬ (n : Int) < 9 := by omega
  have ni : (n : Int) ≤ 50000 := by omega
  have hmod := mod_any a1 (n : Int) (by omega) (by omega) b1.1 b1.2
  obtain ⟨i, hie⟩ := Int.eq_ofNat_of_zero_le (Int.emod_nonneg a1 (b := (n : Int)) (by omega))
  have hil := Int.emod_lt_of_pos a1 (b := (n : Int)) (by omega)
  rw [hie] at hmod hil
  have JM := Lib.hid hmod
  have hil2 : i < n := by omega
  have hbi : (seg x).getD i 0 < 256 := by
    rw [List.getD_eq_getElem?_getD, List.getElem?_eq_getElem (by omega)]
    exact hpb _ (List.getElem_mem _)
  obtain ⟨b, hbb⟩ : ∃ b, (seg x).getD i 0 = b := ⟨_, rfl⟩
  rw [hbb] at hbi
  have HDM : Hid (∀ y : Nat, y < 256 → b ≠ y → ∀ L, Vx L → seg L = (seg x).set i y → False) := fun y hy hne L hl he => dam_seg hv hl hy (by rw [hn]; exact hil2) (by rw [hbb]; exact hne) he
  have HPP := Lib.hid (And.intro hpb (And.intro hn hbb))
  clear hz hv hk ho2 hc2 hpb hn hie hmod hbb b1 hsz
  go_wp2_with fail
  go_at_call 11
  refine (HE1.out _ (by first | exact Bel.rf | exact Bel.rf.drwN _)).mono ?_
  rintro e v5 ⟨u0, rfl, ho5, hb5⟩
  have HB5 : Hid (Bel v2 v5) := by first | exact hb5 | exact (Bel.rf.drwN _).tr hb5
  obtain ⟨h1, c1, rfl, hc1, hm1, _, hr1⟩ := own_rd ho5 (seg_byte HV.out) rfl (by rw [HPP.out.2.1]; omega)
  rw [HPP.out.2.1] at hr1 ⊢
  have HR1 := Lib.hid hr1
  clear hr1 hb5 ho5 hc1 hm1
  go_upto_region 5 with (at_builtin; refine wpList_append_rd rfl (.tmp 26) (.tmp 27) 23 rfl v5.heap.size 5 i0 (.int .u8 0) Try.underlying23 HI.out.1 HI.out.2.1 HI.out.2.2.1 HI.out.2.2.2 rfl (.slice (some ⟨v5.heap.size, 0, none⟩) 0 0) 0 [] rfl (World.ownsRow_lit v5 #[] 0 (Nat.le_refl _) (by decide) rfl) (some ⟨h1, 0, none⟩) n c1 (seg x) rfl (HR1.out.bel (Bel.rf.al _)) (fun h => by cases h) (by omega) (by simp) ?_; intro u6 w6 ho6 hg6
                         have HB6 : Hid (Bel v5 w6) := Below.grown ((Bel.rf.al _).bl) hg6 (by simp) (fun b e => by cases e; exact Nat.le_refl _)
                         have HO6 : Hid (w6.ownsRow v5.heap.size 5 1 u6 n (bys (seg x))) := (by have h9 := ho6; rw [Nat.zero_add, List.nil_append] at h9; exact h9)
                         clear ho6 hg6)
  obtain ⟨g6, cap, hu6, hgb, hcn, hcm⟩ : ∃ g6 cap, u6 = .slice (some ⟨g6, 0, none⟩) n cap ∧ v5.heap.size ≤ g6 ∧ n ≤ cap ∧ cap ≤ maxLen := by
    rcases HO6.out.2 with ⟨_, h9⟩ | ⟨g, cap, cur, e, hb, _, hc, hm, _⟩
    · omega
    · exact ⟨g, cap, e, hb, hc, hm⟩
  subst hu6
  have c1' : w6.cell? ⟨g6, i, none⟩ = some (.int .u8 (b : Int)) := by
    rw [HO6.out.cellAt i (by omega), bys_at (by rw [HPP.out.2.1]; exact hil2), HPP.out.2.2]
  have f1 : w6.frozen? ⟨g6, i, none⟩ = false := HO6.out.frozenAt i
  have HGB := Lib.hid hgb
  have HCC := Lib.hid (And.intro hcn hcm)
  clear hgb hcn hcm
  rcases Int.lt_or_le a2 1 with hz | hz
  · obtain rfl : a2 = 0 := by omega
    have e1 : bits .xor .u8 (b : Int) 1 = ((b ^^^ 1 : Nat) : Int) := xor_u8 hbi (by decide)
    have hxl := Nat.xor_lt_two_pow (n := 8) hbi (show 1 < 2 ^ 8 by decide)
    have hne : b ≠ b ^^^ 1 := xor_ne (by decide)
    have q2 : max (0 : Int) 1 = 1 := by decide
    obtain ⟨q, hq⟩ : ∃ q, b ^^^ 1 = q := ⟨_, rfl⟩
    rw [hq] at e1 hxl hne
    have HRS : Hid (Rd (w6.setCell ⟨g6, i, none⟩ (.int .u8 (q : Int))) (some ⟨g6, 0, none⟩) n ((seg x).set i q)) := Sg.rd_set HO6.out HPP.out.1 HPP.out.2.1 hxl
    have HDB : Hid (∀ W, Rd W (some ⟨g6, 0, none⟩) n ((seg x).set i q) → _) := fun W hW => dec_any (some ⟨g6, 0, none⟩) cap n ((seg x).set i q) (by omega) HCC.out.1 HCC.out.2 W hW
    have HBS : Hid (Bel w (w6.setCell ⟨g6, i, none⟩ (.int .u8 (q : Int)))) := Bel.tr (HB2.out.tr (HB5.out)) (HB6.out.st HGB.out _)
    have HNE := Lib.hid (HDM.out q hxl hne)
    clear hq hne hxl
    go_upto_region 6 with (go_at_call 16; refine (JM.out _).mono ?_; rintro e w' ⟨rfl, rfl⟩)
    clear c1' f1 e1
    go_wp2_with fail
    go_at_call 12
    refine (HDB.out _ HRS.out).mono ?_
    rintro e w7 ⟨A7, n7, c7, L7, er, rfl, _, _, _, _, _, _, hb7, _, hy7, _⟩
    have q9 : (er != 0) = true := by
      have : er ≠ 0 := fun h => by
        obtain ⟨h1, h2⟩ := hy7 h
        exact HNE.out L7 h1 h2
      simpa using this
    have HB7 := Lib.hid (HBS.out.tr hb7)
    clear hb7 hy7
    go_wp2_with (go_at_call 8; refine (AW.out _).mono ?_; rintro e w9 ⟨rfl, hb9⟩)
    go_ret
    exact ⟨rfl, (HB7.out.tr (by first | exact hb9 | exact (Bel.rf.drwN _).tr hb9 | exact Bel.rf.drw.tr hb9)).bl⟩
  · obtain ⟨y, rfl⟩ := Int.eq_ofNat_of_zero_le b2.1
    have e1 : bits .xor .u8 (b : Int) (y : Int) = ((b ^^^ y : Nat) : Int) := xor_u8 hbi (by omega)
    have hxl := Nat.xor_lt_two_pow (n := 8) hbi (show y < 2 ^ 8 by omega)
    have hne : b ≠ b ^^^ y := xor_ne (by omega)
    have q1 : ¬ (y : Int) < 1 := by omega
    have q2 : max (y : Int) 1 = (y : Int) := by omega
    obtain ⟨q, hq⟩ : ∃ q, b ^^^ y = q := ⟨_, rfl⟩
    rw [hq] at e1 hxl hne
    have HRS : Hid (Rd (w6.setCell ⟨g6, i, none⟩ (.int .u8 (q : Int))) (some ⟨g6, 0, none⟩) n ((seg x).set i q)) := Sg.rd_set HO6.out HPP.out.1 HPP.out.2.1 hxl
    have HDB : Hid (∀ W, Rd W (some ⟨g6, 0, none⟩) n ((seg x).set i q) → _) := fun W hW => dec_any (some ⟨g6, 0, none⟩) cap n ((seg x).set i q) (by omega) HCC.out.1 HCC.out.2 W hW
    have HBS : Hid (Bel w (w6.setCell ⟨g6, i, none⟩ (.int .u8 (q : Int)))) := Bel.tr (HB2.out.tr (HB5.out)) (HB6.out.st HGB.out _)
    have HNE := Lib.hid (HDM.out q hxl hne)
    clear hq hne hxl
    go_upto_region 6 with (go_at_call 16; refine (JM.out _).mono ?_; rintro e w' ⟨rfl, rfl⟩)
    clear c1' f1 e1
    go_wp2_with fail
    go_at_call 12
    refine (HDB.out _ HRS.out).mono ?_
    rintro e w7 ⟨A7, n7, c7, L7, er, rfl, _, _, _, _, _, _, hb7, _, hy7, _⟩
    have q9 : (er != 0) = true := by
      have : er ≠ 0 := fun h => by
        obtain ⟨h1, h2⟩ := hy7 h
        exact HNE.out L7 h1 h2
      simpa using this
    have HB7 := Lib.hid (HBS.out.tr hb7)
    clear hb7 hy7
    go_wp2_with (go_at_call 8; refine (AW.out _).mono ?_; rintro e w9 ⟨rfl, hb9⟩)
    go_ret
    exact ⟨rfl, (HB7.out.tr (by first | exact hb9 | exact (Bel.rf.drwN _).tr hb9 | exact Bel.rf.drw.tr hb9)).bl⟩

set_option maxRecDepth 100000 in
theorem lifted (os : Os) (started : os.Started) (H : Type) (enc : TypeId × Value → H) :
    ReturnsInHanded {} Try.checked os 4 .any (Rows.segmentDamageSpec.pre6 enc Try.prog Try.f4 Rows.segmentDamageRow.domain false) (Rows.segmentDamageSpec.post enc Try.prog Try.f4 false true false false) := by
  refine returnsInHanded_of_change (C := Try.checked) own started (by kernel_rfl) Try.func4
    (ChangeSpec.witness6 (enc := enc) (C := Try.checked) false ⟨#[], #[.slice none 0 0, .int .i64 0, .int .u8 0], []⟩ 8 (by kernel_rfl) (by kernel_rfl) (by kernel_rfl) (by kernel_rfl)) ?_
  intro W base args ds gs before hval0 hW hcnd _
  have hval : ∀ (j : Nat) t v, Try.f4.params[j]? = some t → args[j]? = some v → Value.okWide Try.prog W .any base t v := hval0
  have hW' := hW
  obtain ⟨p, q, hA0, hV, rfl, hfz, hnd⟩ := hW
  have hA : DataW.TrodAll enc Try.prog W 0 (fun _ => true) true Try.f4.params.toList args.toList ds p := hA0
  rw [Try.params4] at hA hval
  obtain ⟨v0, vs0, d0, ds0, p0, q0, hargs, rfl, rfl, h0, r0⟩ := trodAll_cons hA
  obtain ⟨v1, vs1, d1, ds1, p1, q1, rfl, rfl, rfl, h1, r1⟩ := trodAll_cons r0
  obtain ⟨v2, vs2, d2, ds2, p2, q2, rfl, rfl, rfl, h2, r2⟩ := trodAll_cons r1
  obtain ⟨rfl, rfl, rfl⟩ := trodAll_nil r2
  obtain rfl : args = #[v0, v1, v2] := by cases args; simp_all
  obtain ⟨rfl, rfl⟩ := trodVars_none hV
  obtain ⟨a0, len0, cap0, rfl⟩ := okWide_slice Try.underlying22 (hval 0 22 v0 rfl rfl)
  have k0 := h0
  have lt0 : ∀ x ∈ p0, x.block < W.heap.size := by obtain ⟨m, hm⟩ := k0; exact DataW.trod_lt m _ _ _ hm
  obtain ⟨z0, w0⟩ : ∃ zs, IsRow .i64 W a0 len0 cap0 zs := by
    obtain ⟨fuel, hf⟩ := h0
    rcases open_ints Try.underlying22 Try.underlying3 (by kernel_rfl) hf with ⟨hcs, _⟩ | ⟨x, l, c, zs, hcs, _, hl, hm, hz, _, hcell, hwz⟩
    · simp [Value.cells] at hcs
      obtain ⟨rfl, rfl, rfl⟩ := hcs
      exact ⟨[], .inl ⟨rfl, rfl, rfl, rfl⟩⟩
    · simp [Value.cells] at hcs
      obtain ⟨rfl, rfl, rfl⟩ := hcs
      exact ⟨zs, .inr ⟨_, rfl, hl, hm, by simpa using hz, hcell, hwz⟩⟩
  obtain ⟨a1, rfl, rfl, rfl, w1⟩ := open_int Try.underlying3 (hval 1 3 v1 rfl rfl) h1
  obtain ⟨a2, rfl, rfl, rfl, w2⟩ := open_int Try.underlying5 (hval 2 5 v2 rfl rfl) h2
  clear hA0 hval0
  refine (walk a0 len0 cap0 z0 a1 a2 W w0 w1 w2).mono fun e W' ⟨he, bel⟩ => ?_
  subst he
  exact ⟨_, rfl, _, _, _, [], _, [], hW', trodAll_mk1 (shut_bool Try.underlying4 _), (trodAll_cons_mk (Below.trod laidOut (by kernel_rfl) (of_decide_eq_true (by kernel_rfl)) k0 bel lt0) (trodAll_cons_mk (shut_int Try.underlying3 w1) (trodAll_cons_mk (shut_int Try.underlying5 w2) trodAll_mk0))), rfl, bel.frame _, fun h => by cases h⟩

theorem over : Rows.segmentDamageRow.holds Try.pinned (OpenSpec.ofChange Rows.segmentDamageSpec) :=
  OpenClaim.holds_of_wide 4 Try.f4 rfl rfl rfl rfl rfl rfl rfl ⟨rfl, rfl, rfl, rfl, rfl⟩ rfl rfl rfl rfl rfl (by kernel_rfl) Try.func4 (by kernel_rfl)
    (of_decide_eq_true (by kernel_rfl)) (by unfold Func.isWrapper; first | (rw [if_pos (by decide +kernel)]; kernel_rfl) | (rw [if_neg (by decide +kernel)]; exact ⟨rfl, rfl⟩))
    (fun os started H enc _ => lifted os started H enc)

theorem proved : Rows.SegmentDamageSaid := over
end Go.Proofs.Ytaplbkfmedofcaa.segmentDamage
