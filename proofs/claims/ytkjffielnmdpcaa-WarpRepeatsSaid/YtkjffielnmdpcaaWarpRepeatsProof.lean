/- That the law WarpRepeats returns true for every input that can be read, and leaves its arguments as they were; no further condition. -/
import Derived.Test.YtkjffielnmdpcaaRows
import Derived.WalkKit
import Derived.ProofKit
import Derived.OpenShut
import Derived.Test.YtkjffielnmdpcaaWords
import Derived.Test.YtkjffielnmdpcaaSrcNew0
import Derived.Test.YtkjffielnmdpcaaWarp10
import Derived.ShutString
import Derived.ChangeOld
import Derived.Below
namespace Go.Proofs.Ytkjffielnmdpcaa.warpRepeats
open Go.ChangeShapes Go.WideShapes Go.ChangeAt Go.RowKit Wo
open Go.ChangeMaps (open_string shut_string)
set_option linter.unusedVariables false

theorem own : ownKnob Try.prog.godebug = none := by kernel_rfl
theorem laidOut : laidOutB Try.prog = true := by kernel_rfl

/-- WHAT THE WALK IS TOLD OF A SLICE OF INTEGERS THAT CAME IN: it is nil; or it leads to a row of 'cap' cells, the numbers 'zs' (the first 'len' are its elements, the rest its spare room), each fitting its kind. -/
def IsRow (k : IntKind) (w : World) (a : Option Addr) (len cap : Nat) (zs : List Int) : Prop :=
  (a = none ∧ len = 0 ∧ cap = 0 ∧ zs = []) ∨
  ∃ x, a = some x ∧ len ≤ cap ∧ cap ≤ maxLen ∧ zs.length = cap ∧ (∀ i, i < zs.length → w.cell? (x.add i) = some (.int k (zs.getD i 0))) ∧ ∀ n ∈ zs, (Lit.int k n).wf = true

open Go.Proofs.Ytkjffielnmdpcaa.Wa Go.Proofs.Ytkjffielnmdpcaa.Ed Go.Proofs.Ytkjffielnmdpcaa.Wi Go.Proofs.Ytkjffielnmdpcaa.Wo Go.Proofs.Ytkjffielnmdpcaa.Sr in
set_option maxHeartbeats 4000000 in
set_option maxRecDepth 100000 in
theorem walk (a0 : Option Addr) (len0 cap0 : Nat) (z0 : List Int) (w : World) (w0 : IsRow .i64 w a0 len0 cap0 z0) :
    Calls Try.prog 7 #[.slice a0 len0 cap0] w fun e w' => e = .returned (.bool true) ∧ Below w.heap.size w w' := by
  have AW : Hid (∀ W, Calls Try.prog 20 #[] W fun e w' => e = .returned (.bool true) ∧ Bel W w') := awake_any
  go_enter Try.func7, Try.ntmps7
  go_wp2_with fail
  go_at_call 14
  refine (new_any a0 len0 cap0 z0 w w0).mono ?_
  rintro e v1 ⟨q, rfl, hq, ho1, hb1⟩
  have HO := Lib.hid ho1
  have HBa : Hid (Bel w v1) := hb1
  clear ho1 hb1
  have hq1 : v1.heap.size ≤ v1.heap.size := Nat.le_refl _
  go_wp2_with fail
  go_at_call 24
  refine (range_any q 2 16 (by decide) (by decide) (by decide) _ HO.out).mono ?_
  rintro e v2 ⟨n0, rfl, hn0, hn1, ho2, hc2⟩
  obtain ⟨n, rfl⟩ := Int.eq_ofNat_of_zero_le (show 0 ≤ n0 by omega)
  have HO2 := Lib.hid ho2
  have HB2 : Hid (Bel w v2) := Bel.ch HBa.out hc2 (by have := hq; omega)
  clear ho2 hc2
  go_wp2_with fail
  go_at_call 23
  refine (list_any q n (by omega) _ HO2.out).mono ?_
  rintro e v3 ⟨v, L, rfl, hown, hL, hS, ho3, hc3⟩
  have HB3 : Hid (Bel w v3) := Bel.ch HB2.out hc3 (by have := hq; omega)
  obtain ⟨xa, xb, rfl, hcap, hxa⟩ := row_form hown (by omega)
  have HZ := Lib.hid (own_zi hown hL)
  have HL := Lib.hid (And.intro hL hS)
  have HR0 : Hid (v3.ownsRow v3.heap.size 3 1 (.slice none 0 0) (2 * 0) (zs (dbl (L.take 0)))) := World.ownsRow_nil _ _ _ _
  clear hown hL hS ho3 hc3 w0
  go_wp2
  go_loopw [5, 17] (fun s5 s17 wr => ∃ (t : Nat) (V : World) (u : Value), V = wr ∧ u = s5 ∧ t ≤ n ∧ s17 = .int .i64 (t : Int) ∧ wr.ownsRow v3.heap.size 3 1 s5 (2 * t) (zs (dbl (L.take t))) ∧ Bel v3 wr) (fun _ s17 _ => n - (intOf s17).toNat)
  case atStart => exact ⟨0, _, _, rfl, rfl, by omega, rfl, HR0.out, Bel.rf⟩
  case round =>
    clear HR0
    obtain ⟨t, wr, u, hwr, hu, ht, rfl, hown, hb⟩ := hrel
    subst hwr hu
    have HOW := Lib.hid hown
    have HB := Lib.hid hb
    rcases Nat.lt_or_ge t n with hlt | hge
    · have c1 := (HZ.out.bel hb).at t hlt
      have tk := take_snoc L t (by have := HL.out.1; omega)
      obtain ⟨x, hx⟩ : ∃ x, L.getD t 0 = x := ⟨_, rfl⟩
      rw [hx] at c1 tk
      have HT : Hid (dbl (L.take (t + 1)) = dbl (L.take t) ++ [x, x]) := by show _ = _; rw [tk, dbl_snoc]
      have ti : (t : Int) < (n : Int) := by omega
      have n16 : n ≤ 16 := by omega
      have tb : v3.heap.size ≤ wr.heap.size := hb.size
      clear hown hb hx tk
      go_wp2
      go_region_law (refine step_app _ rfl _ _ rfl v3.heap.size u (2 * t) (dbl (L.take t)) rfl ((own_bel HOW.out (by repeat (first | exact Bel.rf | (with_reducible refine Bel.drwN ?_ _) | (with_reducible refine Bel.drw ?_)))).alloc _) ⟨wr.heap.size, 0, none⟩ 2 2 [x, x] rfl (zi_bk (Bk.nw _ 3 _) 2 rfl) (by omega) (by simp; omega) ?_; intro v' w5 hown4 hgrow hat)
      all_goals
        have HN : Hid (w5.ownsRow v3.heap.size 3 1 v' (2 * (t + 1)) (zs (dbl (L.take (t + 1))))) := by rw [HT.out]; exact hown4
        have HB5 : Hid (Bel v3 w5) := bel_grown (by repeat (first | exact HB.out | (with_reducible refine Bel.drwN ?_ _) | (with_reducible refine Bel.drw ?_) | (with_reducible refine Bel.al ?_ _))) hgrow (fun q e => (HOW.out.lt q e).1)
        clear hown4 hgrow hat
        go_wp2
        go_roundw
        case rel => exact ⟨t + 1, _, _, rfl, rfl, by omega, by go_num, HN.out, HB5.out⟩
        case measure => simp [intOf]; omega
    · obtain rfl : n = t := by omega
      rw [List.take_of_length_le (by have := HL.out.1; omega)] at hown
      obtain ⟨ya, yb, rfl, hyc, hya⟩ := row_form hown (by omega)
      have zy : Zi wr (some ⟨ya, 0, none⟩) (2 * n) (dbl L) := own_zi hown (by rw [dbl_len, HL.out.1])
      have D1 := Lib.hid (distance_ok (some ⟨xa, 0, none⟩) (some ⟨ya, 0, none⟩) xb yb n (2 * n) L (dbl L) 32 (by omega) (by omega) (by omega) (by omega) (by omega) (by omega) (by omega) (by omega) HL.out.2 (dbl_sam HL.out.2) wr (HZ.out.bel hb) zy)
      rw [wt_dbl HL.out.2 n (by omega)] at D1
      clear hown hb zy HOW
      go_wp2_with fail
      go_at_call 16
      refine D1.out.mono ?_
      rintro e p1 ⟨rfl, hb⟩
      have HD : Hid (Bel v3 p1) := HB.out.tr hb
      clear hb
      go_wp2_with (go_at_call 20; refine (AW.out _).mono ?_; rintro e w9 ⟨rfl, hb9⟩)
      go_ret
      exact ⟨rfl, ((HB3.out.tr HD.out).tr hb9).bl⟩

set_option maxRecDepth 100000 in
theorem lifted (os : Os) (started : os.Started) (H : Type) (enc : TypeId × Value → H) :
    ReturnsInHanded {} Try.checked os 7 .any (Rows.warpRepeatsSpec.pre6 enc Try.prog Try.f7 Rows.warpRepeatsRow.domain false) (Rows.warpRepeatsSpec.post enc Try.prog Try.f7 false true false false) := by
  refine returnsInHanded_of_change (C := Try.checked) own started (by kernel_rfl) Try.func7
    (ChangeSpec.witness6 (enc := enc) (C := Try.checked) false ⟨#[], #[.slice none 0 0], []⟩ 8 (by kernel_rfl) (by kernel_rfl) (by kernel_rfl) (by kernel_rfl)) ?_
  intro W base args ds gs before hval0 hW hcnd _
  have hval : ∀ (j : Nat) t v, Try.f7.params[j]? = some t → args[j]? = some v → Value.okWide Try.prog W .any base t v := hval0
  have hW' := hW
  obtain ⟨p, q, hA0, hV, rfl, hfz, hnd⟩ := hW
  have hA : DataW.TrodAll enc Try.prog W 0 (fun _ => true) true Try.f7.params.toList args.toList ds p := hA0
  rw [Try.params7] at hA hval
  obtain ⟨v0, vs0, d0, ds0, p0, q0, hargs, rfl, rfl, h0, r0⟩ := trodAll_cons hA
  obtain ⟨rfl, rfl, rfl⟩ := trodAll_nil r0
  obtain rfl : args = #[v0] := by cases args; simp_all
  obtain ⟨rfl, rfl⟩ := trodVars_none hV
  obtain ⟨a0, len0, cap0, rfl⟩ := okWide_slice Try.underlying22 (hval 0 22 v0 rfl rfl)
  have k0 := h0
  have lt0 : ∀ x ∈ p0, x.block < W.heap.size := by obtain ⟨m, hm⟩ := k0; exact DataW.trod_lt m _ _ _ hm
  obtain ⟨z0, w0⟩ : ∃ zs, IsRow .i64 W a0 len0 cap0 zs := by
    obtain ⟨fuel, hf⟩ := h0
    rcases open_ints Try.underlying22 Try.underlying3 (by kernel_rfl) hf with ⟨hcs, _⟩ | ⟨x, l, c, zs, hcs, _, hl, hm, hz, _, hcell, hwz⟩
    · simp [Value.cells] at hcs
      obtain ⟨rfl, rfl, rfl⟩ := hcs
      exact ⟨[], .inl ⟨rfl, rfl, rfl, rfl⟩⟩
    · simp [Value.cells] at hcs
      obtain ⟨rfl, rfl, rfl⟩ := hcs
      exact ⟨zs, .inr ⟨_, rfl, hl, hm, by simpa using hz, hcell, hwz⟩⟩
  clear hA0 hval0
  refine (walk a0 len0 cap0 z0 W w0).mono fun e W' ⟨he, bel⟩ => ?_
  subst he
  exact ⟨_, rfl, _, _, _, [], _, [], hW', trodAll_mk1 (shut_bool Try.underlying4 _), (trodAll_cons_mk (Below.trod laidOut (by kernel_rfl) (of_decide_eq_true (by kernel_rfl)) k0 bel lt0) trodAll_mk0), rfl, bel.frame _, fun h => by cases h⟩

theorem over : Rows.warpRepeatsRow.holds Try.pinned (OpenSpec.ofChange Rows.warpRepeatsSpec) :=
  OpenClaim.holds_of_wide 7 Try.f7 rfl rfl rfl rfl rfl rfl rfl ⟨rfl, rfl, rfl, rfl, rfl⟩ rfl rfl rfl rfl rfl (by kernel_rfl) Try.func7 (by kernel_rfl)
    (of_decide_eq_true (by kernel_rfl)) (by unfold Func.isWrapper; first | (rw [if_pos (by decide +kernel)]; kernel_rfl) | (rw [if_neg (by decide +kernel)]; exact ⟨rfl, rfl⟩))
    (fun os started H enc _ => lifted os started H enc)

theorem proved : Rows.WarpRepeatsSaid := over
end Go.Proofs.Ytkjffielnmdpcaa.warpRepeats
