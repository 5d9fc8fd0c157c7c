/- That the law WindowSums returns true for every input that can be read, and leaves its arguments as they were; no further condition. -/
import Derived.Test.YtiomiohdeghpiaaRows
import Derived.WalkKit
import Derived.ProofKit
import Derived.OpenShut
import Derived.Test.YtiomiohdeghpiaaWords
import Derived.Test.YtiomiohdeghpiaaSrcNew0
import Derived.Test.YtiomiohdeghpiaaWinStats
import Derived.ShutString
import Derived.ChangeOld
import Derived.Below
namespace Go.Proofs.Ytiomiohdeghpiaa.windowSums
open Go.ChangeShapes Go.WideShapes Go.ChangeAt Go.RowKit Wo
open Go.ChangeMaps (open_string shut_string)
set_option linter.unusedVariables false

theorem own : ownKnob Try.prog.godebug = none := by kernel_rfl
theorem laidOut : laidOutB Try.prog = true := by kernel_rfl

/-- WHAT THE WALK IS TOLD OF A SLICE OF INTEGERS THAT CAME IN: it is nil; or it leads to a row of 'cap' cells, the numbers 'zs' (the first 'len' are its elements, the rest its spare room), each fitting its kind. -/
def IsRow (k : IntKind) (w : World) (a : Option Addr) (len cap : Nat) (zs : List Int) : Prop :=
  (a = none ∧ len = 0 ∧ cap = 0 ∧ zs = []) ∨
  ∃ x, a = some x ∧ len ≤ cap ∧ cap ≤ maxLen ∧ zs.length = cap ∧ (∀ i, i < zs.length → w.cell? (x.add i) = some (.int k (zs.getD i 0))) ∧ ∀ n ∈ zs, (Lit.int k n).wf = true

open Go.Proofs.Ytiomiohdeghpiaa.Wi Go.Proofs.Ytiomiohdeghpiaa.Wo Go.Proofs.Ytiomiohdeghpiaa.Sr in
set_option maxHeartbeats 16000000 in
set_option maxRecDepth 100000 in
theorem walk (a0 : Option Addr) (len0 cap0 : Nat) (z0 : List Int) (a1 : Int) (a2 : Int) (w : World) (w0 : IsRow .i64 w a0 len0 cap0 z0) (w1 : (Lit.int .u8 a1).wf = true) (w2 : (Lit.int .u8 a2).wf = true) :
    Calls Try.prog 4 #[.slice a0 len0 cap0, .int .u8 a1, .int .u8 a2] w fun e w' => e = .returned (.bool true) ∧ Below w.heap.size w w' := by
  have b1 := bounds_u8 w1
  have b2 := bounds_u8 w2
  obtain ⟨i1, i2⟩ := b1
  obtain ⟨i3, i4⟩ := b2
  have HW := Lib.hid (And.intro w1 w2)
  clear w1 w2
  have AW : Hid (∀ W, Calls Try.prog 9 #[] W fun e w' => e = .returned (.bool true) ∧ Bel W w') := awake_any
  go_enter Try.func4, Try.ntmps4
  go_wp2_with fail
  go_at_call 10
  refine (new_any a0 len0 cap0 z0 w w0).mono ?_
  rintro e v1 ⟨g, rfl, hg, ho1, hb1⟩
  have HO1 := Lib.hid ho1
  have HB1 := Lib.hid hb1
  clear ho1 hb1 w0
  go_wp2_with fail
  go_at_call 17
  refine (range_any g 1 60 (by decide) (by decide) (by decide) _ HO1.out).mono ?_
  rintro e v2 ⟨n0, rfl, hn0, hn1, ho2, hc2⟩
  obtain ⟨n, rfl⟩ := Int.eq_ofNat_of_zero_le (show 0 ≤ n0 by omega)
  have HO2 := Lib.hid ho2
  have HB2 : Hid (Bel w v2) := Bel.ch HB1.out hc2 hg
  clear ho2 hc2
  go_wp2_with fail
  go_at_call 11
  refine (list_any g n (by omega) _ HO2.out).mono ?_
  rintro e v3 ⟨v, L, rfl, hown, hL, hS, ho3, hc3⟩
  have HB3 : Hid (Bel w v3) := Bel.ch HB2.out hc3 hg
  have HL := Lib.hid hL
  have HS := Lib.hid hS
  obtain ⟨h, c, rfl, hcap, hh⟩ := row_form hown (by omega)
  have HZ := Lib.hid (own_zi hown hL)
  have HOW := Lib.hid hown
  clear hown hL hS ho3 hc3
  have r0 := Int.emod_nonneg a2 (b := (n : Int)) (by omega)
  have r1 := Int.emod_lt_of_pos a2 (b := (n : Int)) (by omega)
  have hr : a2.tmod (n : Int) = a2 % (n : Int) := Int.tmod_eq_emod_of_nonneg i3
  obtain ⟨r, hr2⟩ := Int.eq_ofNat_of_zero_le r0
  rw [hr2] at hr r1
  obtain ⟨k, hk⟩ : ∃ k, 1 + r = k := ⟨_, rfl⟩
  have hki : 1 + (r : Int) = (k : Int) := by omega
  have k0 : 1 ≤ (k : Int) := by omega
  have k1 : (k : Int) ≤ (n : Int) := by omega
  have n1 : (n : Int) ≤ 60 := by omega
  have n2 : (n : Int) ≠ 0 := by omega
  have m0 := Int.emod_nonneg a1 (b := (n : Int) - (k : Int) + 1) (by omega)
  have m1 := Int.emod_lt_of_pos a1 (b := (n : Int) - (k : Int) + 1) (by omega)
  have HM : Hid (∀ W, Calls Try.prog 26 #[.int .i64 a1, .int .i64 ((n : Int) - (k : Int) + 1)] W fun e w' => e = .returned (.int .i64 (a1 % ((n : Int) - (k : Int) + 1))) ∧ W = w') := fun W => mod_any a1 _ (by omega) (by omega) (by omega) (by omega) W
  obtain ⟨i, hi⟩ := Int.eq_ofNat_of_zero_le m0
  rw [hi] at m1 HM
  have HR := Lib.hid (And.intro hr2 hk)
  clear r0 hr2 hk m0 hi
  have hik : i + k ≤ n := by omega
  have ii : (i : Int) + (k : Int) ≤ (n : Int) := by omega
  go_wp2_with fail
  go_at_call 26
  refine (HM.out _).mono ?_
  rintro e v ⟨rfl, rfl⟩
  go_wp2_with fail
  go_at_call 14
  refine (of_ok _ _ n L (by omega) HS.out _ HZ.out).mono ?_
  rintro e v4 ⟨g1, c1, g2, c2, rfl, hz1, hz2, hb4⟩
  have HB4 := Lib.hid (HB3.out.tr hb4)
  have HZ1 := Lib.hid hz1
  have HZ2 := Lib.hid hz2
  have HZ4 := Lib.hid (HZ.out.bel hb4)
  clear hb4 hz1 hz2 HZ HOW
  go_wp2_with fail
  go_at_call 22
  refine (stats_ok g1 c1 g2 c2 n i k L (by omega) HL.out hik (by omega) HS.out _ (HZ1.out.bel (Bel.rf.al _)) (HZ2.out.bel (Bel.rf.al _))).mono ?_
  rintro e v5 ⟨rfl, hb5⟩
  have HB5 : Hid (Bel w v5) := (HB4.out.al _).tr hb5
  have HZ5 := Lib.hid (HZ4.out.bel ((Bel.rf.al _).tr hb5))
  obtain ⟨P, hP⟩ : ∃ P, (L.drop i).take k = P := ⟨_, rfl⟩
  rw [hP]
  have HPL : Hid (P.length = k) := by show _ = _; rw [← hP]; simp; have := HL.out; omega
  have HPS : Hid (Sam P) := by show Sam P; rw [← hP]; exact (HS.out.drop i).take k
  have HPA : Hid (∀ t, t < k → P.getD t 0 = L.getD (i + t) 0) := by
    show ∀ t, _
    intro t ht
    rw [← hP]
    simp [List.getD_eq_getElem?_getD, ht]
  obtain ⟨Y1, hY1⟩ : ∃ y, su ix P = y := ⟨_, rfl⟩
  obtain ⟨Y2, hY2⟩ : ∃ y, su sq P = y := ⟨_, rfl⟩
  rw [hY1, hY2]
  have HY := Lib.hid (And.intro hP (And.intro hY1 hY2))
  clear hP hY1 hY2 hb5
  have ci : (n : Int) ≤ (c : Int) := by omega
  go_wp2
  go_loopw [15, 16, 58] (fun s15 s16 s58 wr => ∃ (t : Nat) (V : World) (x y : Int), V = wr ∧ t ≤ k ∧ s58 = .int .i64 (t : Int) ∧ s15 = .int .i64 x ∧ s16 = .int .i64 y ∧ x = su ix (P.take t) ∧ y = su sq (P.take t) ∧ Bel (v5.alloc (.cells #[.int .i64 (k : Int), .int .i64 Y1, .int .i64 Y2] 26)) wr) (fun _ _ s58 _ => k - (intOf s58).toNat)
  case atStart => exact ⟨0, _, 0, 0, rfl, by omega, rfl, rfl, rfl, by simp [su], by simp [su], Bel.rf⟩
  case round =>
    obtain ⟨t, wr, x, y, hwr, ht, rfl, rfl, rfl, hx, hy, hb⟩ := hrel
    subst hwr
    have HB := Lib.hid hb
    rcases Nat.lt_or_ge t k with hlt | hge
    · have e1 := (HZ5.out.bel ((Bel.rf.al _).tr hb)).at (i + t) (by omega)
      rw [← HPA.out t hlt] at e1
      have n1 := su_next ix P t (by have := HPL.out; omega)
      have n2 := su_next sq P t (by have := HPL.out; omega)
      have s1 := su_in (HPS.out.take t)
      have s2 := sq_su_in (HPS.out.take t)
      have tl : ((P.take t).length : Int) ≤ 60 := by have := List.length_take_le t P; omega
      have q := HPS.out.at t
      obtain ⟨u, hu⟩ : ∃ u, P.getD t 0 = u := ⟨_, rfl⟩
      rw [hu] at e1 n1 n2 q
      rw [← hx] at n1 s1
      rw [← hy] at n2 s2
      obtain ⟨q0, q1⟩ := q
      have sq1 := sq_in q0 q1
      have s5 : -60000 ≤ x ∧ x ≤ 60000 ∧ 0 ≤ y ∧ y ≤ 60000000 ∧ 0 ≤ u * u ∧ u * u ≤ 1000000 := by omega
      obtain ⟨s6, s7, s8, s9, s10, s11⟩ := s5
      have hm : wrap64 (u * u) = u * u := IntWalk.wrap64_in _ (by omega)
      have hm2 : IntKind.i64.wrap (u * u) = u * u := IntWalk.i64_in _ (by omega)
      have HN1 := Lib.hid n1
      have HN2 := Lib.hid n2
      have tk : (t : Int) < (k : Int) := by omega
      clear hb n1 n2 s1 s2 tl hu hx hy sq1
      go_wp2
      go_roundw
      case rel => exact ⟨t + 1, _, _, _, rfl, by omega, by go_num, rfl, rfl, HN1.out.symm, HN2.out.symm, by first | exact HB.out | exact HB.out.drwN _ | exact HB.out.drw⟩
      case measure => simp [intOf]; omega
    · obtain rfl : t = k := by omega
      have hfull : P.take t = P := List.take_of_length_le (by have := HPL.out; omega)
      rw [hfull] at hx hy
      rw [HY.out.2.1] at hx
      rw [HY.out.2.2] at hy
      subst hx hy
      have K : Bk wr v5.heap.size 26 #[.int .i64 (t : Int), .int .i64 x, .int .i64 y] := (Bk.nw _ _ _).bel hb
      have l0 : wr.cell? ⟨v5.heap.size, 0, none⟩ = some (.int .i64 (t : Int)) := K.cell 0
      have l1 : wr.cell? ⟨v5.heap.size, 1, none⟩ = some (.int .i64 x) := K.cell 1
      have l2 : wr.cell? ⟨v5.heap.size, 2, none⟩ = some (.int .i64 y) := K.cell 2
      have HF : Hid (Bel w wr) := (HB5.out.al _).tr hb
      clear hb K hfull
      go_wp2_with (go_at_call 9; refine (AW.out _).mono ?_; rintro e w9 ⟨rfl, hb9⟩)
      go_ret
      exact ⟨rfl, (HF.out.tr hb9).bl⟩

set_option maxRecDepth 100000 in
theorem lifted (os : Os) (started : os.Started) (H : Type) (enc : TypeId × Value → H) :
    ReturnsInHanded {} Try.checked os 4 .any (Rows.windowSumsSpec.pre6 enc Try.prog Try.f4 Rows.windowSumsRow.domain false) (Rows.windowSumsSpec.post enc Try.prog Try.f4 false true false false) := by
  refine returnsInHanded_of_change (C := Try.checked) own started (by kernel_rfl) Try.func4
    (ChangeSpec.witness6 (enc := enc) (C := Try.checked) false ⟨#[], #[.slice none 0 0, .int .u8 0, .int .u8 0], []⟩ 8 (by kernel_rfl) (by kernel_rfl) (by kernel_rfl) (by kernel_rfl)) ?_
  intro W base args ds gs before hval0 hW hcnd _
  have hval : ∀ (j : Nat) t v, Try.f4.params[j]? = some t → args[j]? = some v → Value.okWide Try.prog W .any base t v := hval0
  have hW' := hW
  obtain ⟨p, q, hA0, hV, rfl, hfz, hnd⟩ := hW
  have hA : DataW.TrodAll enc Try.prog W 0 (fun _ => true) true Try.f4.params.toList args.toList ds p := hA0
  rw [Try.params4] at hA hval
  obtain ⟨v0, vs0, d0, ds0, p0, q0, hargs, rfl, rfl, h0, r0⟩ := trodAll_cons hA
  obtain ⟨v1, vs1, d1, ds1, p1, q1, rfl, rfl, rfl, h1, r1⟩ := trodAll_cons r0
  obtain ⟨v2, vs2, d2, ds2, p2, q2, rfl, rfl, rfl, h2, r2⟩ := trodAll_cons r1
  obtain ⟨rfl, rfl, rfl⟩ := trodAll_nil r2
  obtain rfl : args = #[v0, v1, v2] := by cases args; simp_all
  obtain ⟨rfl, rfl⟩ := trodVars_none hV
  obtain ⟨a0, len0, cap0, rfl⟩ := okWide_slice Try.underlying22 (hval 0 22 v0 rfl rfl)
  have k0 := h0
  have lt0 : ∀ x ∈ p0, x.block < W.heap.size := by obtain ⟨m, hm⟩ := k0; exact DataW.trod_lt m _ _ _ hm
  obtain ⟨z0, w0⟩ : ∃ zs, IsRow .i64 W a0 len0 cap0 zs := by
    obtain ⟨fuel, hf⟩ := h0
    rcases open_ints Try.underlying22 Try.underlying3 (by kernel_rfl) hf with ⟨hcs, _⟩ | ⟨x, l, c, zs, hcs, _, hl, hm, hz, _, hcell, hwz⟩
    · simp [Value.cells] at hcs
      obtain ⟨rfl, rfl, rfl⟩ := hcs
      exact ⟨[], .inl ⟨rfl, rfl, rfl, rfl⟩⟩
    · simp [Value.cells] at hcs
      obtain ⟨rfl, rfl, rfl⟩ := hcs
      exact ⟨zs, .inr ⟨_, rfl, hl, hm, by simpa using hz, hcell, hwz⟩⟩
  obtain ⟨a1, rfl, rfl, rfl, w1⟩ := open_int Try.underlying5 (hval 1 5 v1 rfl rfl) h1
  obtain ⟨a2, rfl, rfl, rfl, w2⟩ := open_int Try.underlying5 (hval 2 5 v2 rfl rfl) h2
  clear hA0 hval0
  refine (walk a0 len0 cap0 z0 a1 a2 W w0 w1 w2).mono fun e W' ⟨he, bel⟩ => ?_
  subst he
  exact ⟨_, rfl, _, _, _, [], _, [], hW', trodAll_mk1 (shut_bool Try.underlying4 _), (trodAll_cons_mk (Below.trod laidOut (by kernel_rfl) (of_decide_eq_true (by kernel_rfl)) k0 bel lt0) (trodAll_cons_mk (shut_int Try.underlying5 w1) (trodAll_cons_mk (shut_int Try.underlying5 w2) trodAll_mk0))), rfl, bel.frame _, fun h => by cases h⟩

theorem over : Rows.windowSumsRow.holds Try.pinned (OpenSpec.ofChange Rows.windowSumsSpec) :=
  OpenClaim.holds_of_wide 4 Try.f4 rfl rfl rfl rfl rfl rfl rfl ⟨rfl, rfl, rfl, rfl, rfl⟩ rfl rfl rfl rfl rfl (by kernel_rfl) Try.func4 (by kernel_rfl)
    (of_decide_eq_true (by kernel_rfl)) (by unfold Func.isWrapper; first | (rw [if_pos (by decide +kernel)]; kernel_rfl) | (rw [if_neg (by decide +kernel)]; exact ⟨rfl, rfl⟩))
    (fun os started H enc _ => lifted os started H enc)

theorem proved : Rows.WindowSumsSaid := over
end Go.Proofs.Ytiomiohdeghpiaa.windowSums
