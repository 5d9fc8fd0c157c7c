/- That the law PiecesDivide returns true for every input that can be read, and leaves its arguments as they were; no further condition. -/
import Derived.Test.YtkbpcaggkngpnaaRows
import Derived.WalkKit
import Derived.ProofKit
import Derived.OpenShut
import Derived.Test.YtkbpcaggkngpnaaWords
import Derived.Test.YtkbpcaggkngpnaaPieAwake
import Derived.Test.YtkbpcaggkngpnaaLeav
import Derived.ShutString
namespace Go.Proofs.Ytkbpcaggkngpnaa.piecesDivide
open Go.ChangeShapes Go.WideShapes Go.ChangeAt Go.RowKit Wo
open Go.ChangeMaps (open_string shut_string)
set_option linter.unusedVariables false      -- a walk need not use every 'w<i>' (that an integer argument fits its kind)

theorem own : ownKnob Try.prog.godebug = none := by kernel_rfl

open Go.Proofs.Ytkbpcaggkngpnaa.Pc Go.Proofs.Ytkbpcaggkngpnaa.Eu Go.Proofs.Ytkbpcaggkngpnaa.Wi Go.Proofs.Ytkbpcaggkngpnaa.Wo Go.Proofs.Ytkbpcaggkngpnaa.Sr in
set_option maxHeartbeats 8000000 in
set_option maxRecDepth 100000 in
theorem walk (a0 : Int) (a1 : Int) (w0 : (Lit.int .u8 a0).wf = true) (w1 : (Lit.int .u8 a1).wf = true) (w : World) :
    Calls Try.prog 8 #[.int .u8 a0, .int .u8 a1] w fun e w' => e = .returned (.bool true) ∧ Below w.heap.size w w' := by
  obtain ⟨i1, i2⟩ := bounds_u8 w0
  obtain ⟨i3, i4⟩ := bounds_u8 w1
  clear w0 w1
  have AW : Hid (∀ W, Calls Try.prog 28 #[] W fun e w' => e = .returned (.bool true) ∧ Bel W w') := awake_any
  obtain ⟨x, rfl⟩ := Int.eq_ofNat_of_zero_le i1
  obtain ⟨y, rfl⟩ := Int.eq_ofNat_of_zero_le i3
  obtain ⟨R, hR⟩ : ∃ R : Nat, x % 31 = R := ⟨_, rfl⟩
  have hR1 : (x : Int).tmod 31 = (R : Int) := by rw [Int.tmod_eq_emod_of_nonneg (by omega)]; omega
  obtain ⟨K, hK⟩ : ∃ K : Nat, 2 + R = K := ⟨_, rfl⟩
  have hK1 : (2 : Int) + (R : Int) = (K : Int) := by omega
  have kb : 2 ≤ K ∧ K ≤ 32 := by omega
  obtain ⟨M, hM⟩ : ∃ M : Nat, min 8 K = M := ⟨_, rfl⟩
  have mb : 1 ≤ M ∧ M ≤ 8 ∧ M ≤ K := by omega
  obtain ⟨S, hS⟩ : ∃ S : Nat, y % M = S := ⟨_, rfl⟩
  have sb : S < M := by rw [← hS]; exact Nat.mod_lt _ (by omega)
  have hS1 : (y : Int).tmod (M : Int) = (S : Int) := by rw [Int.tmod_eq_emod_of_nonneg (by omega), ← Int.natCast_emod, hS]
  obtain ⟨p, hp⟩ : ∃ p : Nat, 1 + S = p := ⟨_, rfl⟩
  have hp1 : (1 : Int) + (S : Int) = (p : Int) := by omega
  have pb : 1 ≤ p ∧ p ≤ 8 ∧ p ≤ K := by omega
  obtain ⟨k2, k32⟩ := kb
  obtain ⟨M1, M8, MK⟩ := mb
  obtain ⟨p1, p8, pK⟩ := pb
  have M0 : ¬ (M : Int) = 0 := by omega
  have HM := Lib.hid hM
  have hMi : min (8 : Int) (K : Int) = (M : Int) := by omega
  clear hM hR hS
  go_enter Try.func8, Try.ntmps8
  go_wp2_with fail
  go_at_call 27
  refine (Starts_ok K p k2 k32 p1 p8 pK _).mono ?_
  rintro e v1 ⟨h, c, rfl, q1, q2, q3, hb⟩
  have HB1 := Lib.hid hb
  have HZ := Lib.hid (own_zi q3 (sts_len K p))
  have c0 : v1.cell? ⟨h, 0, none⟩ = some (.int .i64 0) := by have := HZ.out.at 0 (by omega); rwa [sts_at K p 0 (by omega) (by omega), st_zero] at this
  have cp : v1.cell? ⟨h, p, none⟩ = some (.int .i64 (K : Int)) := by have := HZ.out.at p (by omega); rwa [sts_at K p p (by omega) (Nat.le_refl _), st_all K p (by omega)] at this
  have pp : (p : Int) < ((p + 1 : Nat) : Int) := by omega
  have pp0 : (0 : Int) < ((p + 1 : Nat) : Int) := by omega
  have nK := ne_self (K : Int)
  have np := ne_self ((p : Int) + 1)
  have np2 := ne_self (((p + 1 : Nat)) : Int)
  clear hb q1 q2 q3
  go_wp2
  clear c0 cp nK np np2 pp pp0
  go_loopw [9] (fun s9 wr => ∃ (t : Nat) (V : World), V = wr ∧ t ≤ p ∧ s9 = .int .i64 (t : Int) ∧ Bel v1 wr) (fun s9 _ => p - (intOf s9).toNat)
  case atStart => exact ⟨0, _, rfl, by omega, rfl, Bel.rf⟩
  case round =>
    obtain ⟨t, wr, hwr, ht, rfl, hb⟩ := hrel
    subst hwr
    have HB := Lib.hid hb
    rcases Nat.lt_or_ge t p with htl | htl
    · have c1 := (HZ.out.bel hb).at t (by omega)
      have c2 := (HZ.out.bel hb).at (t + 1) (by omega)
      rw [sts_at K p _ (by omega) (by omega)] at c1 c2
      have hst := piece_len K p t (by omega)
      have hs1 := st_mono K p t (t + 1) (by omega)
      have hs2 := st_le K p (t + 1) (by omega) (by omega)
      obtain ⟨s0, e0⟩ : ∃ s, st K p t = s := ⟨_, rfl⟩
      obtain ⟨s1, e1⟩ : ∃ s, st K p (t + 1) = s := ⟨_, rfl⟩
      rw [e0] at c1 hst hs1
      rw [e1] at c2 hst hs1 hs2
      obtain ⟨l, hl⟩ : ∃ l, s1 - s0 = l := ⟨_, rfl⟩
      rw [hl] at hst
      have hli : (s1 : Int) - (s0 : Int) = (l : Int) := by omega
      obtain ⟨q, hq⟩ : ∃ q, K / p = q := ⟨_, rfl⟩
      obtain ⟨q', hq'⟩ : ∃ q, (K + p - 1) / p = q := ⟨_, rfl⟩
      have d1 : (K : Int).tdiv (p : Int) = (q : Int) := by rw [Int.tdiv_eq_ediv_of_nonneg (by omega), ← Int.natCast_ediv, hq]
      have d2 : ((K + p - 1 : Nat) : Int).tdiv (p : Int) = (q' : Int) := by rw [Int.tdiv_eq_ediv_of_nonneg (by omega), ← Int.natCast_ediv, hq']
      obtain ⟨Z, hZ⟩ : ∃ Z, K + p - 1 = Z := ⟨_, rfl⟩
      obtain ⟨Y, hY⟩ : ∃ Y, K + p = Y := ⟨_, rfl⟩
      rw [hZ] at d2
      have hYi : (K : Int) + (p : Int) = (Y : Int) := by omega
      have hZi : (Y : Int) - 1 = (Z : Int) := by omega
      have yb : (Y : Int) ≤ 40 := by omega
      have zb : (Z : Int) ≤ 40 := by omega
      have wY : IntKind.i64.wrap (Y : Int) = (Y : Int) := IntWalk.i64_in _ (by omega)
      have wZ : IntKind.i64.wrap (Z : Int) = (Z : Int) := IntWalk.i64_in _ (by omega)
      rw [hq, hq'] at hst
      obtain ⟨t1, ht1⟩ : ∃ k, t + 1 = k := ⟨_, rfl⟩
      rw [ht1] at c2
      have hti : (t : Int) + 1 = (t1 : Int) := by omega
      have ti : (t : Int) < (p : Int) := by omega
      have tn1 : (t : Int) < ((p + 1 : Nat) : Int) := by omega
      have tn2 : (t1 : Int) < ((p + 1 : Nat) : Int) := by omega
      have tn3 : (t : Int) < (p : Int) + 1 := by omega
      have tn4 : (t1 : Int) < (p : Int) + 1 := by omega
      have p0 : ¬ (p : Int) = 0 := by omega
      have qb : (q : Int) ≤ 32 := by have := Nat.div_le_self K p; omega
      have qb0 : 0 ≤ (q : Int) := by omega
      have wq : IntKind.i64.wrap (q : Int) = (q : Int) := IntWalk.i64_in _ (by omega)
      have HT1 : Hid (t1 ≤ p) := by show t1 ≤ p; omega
      have HT2 : Hid (p - (intOf (.int .i64 (t1 : Int))).toNat < p - (intOf (.int .i64 (t : Int))).toNat) := by show _ < _; simp [intOf]; omega
      have wl : IntKind.i64.wrap (l : Int) = (l : Int) := IntWalk.i64_in _ (by omega)
      clear hb e0 e1 hl hq hq' hs1 hY hZ hR1 hS1 hK hp hMi M0
      rcases Classical.em (l = q) with hlq | hlq
      · subst hlq
        have nl := ne_self (l : Int)
        clear hst
        go_wp2
        go_quiet (fail)
        go_wp2
        all_goals
          clear d1 d2
          go_roundw
          case rel => exact ⟨t1, _, rfl, HT1.out, rfl, HB.out.drwN _⟩
          case measure => exact HT2.out
      · have hlq' : l = q' := by rcases hst with h | h; exact absurd h hlq; exact h
        subst hlq'
        have nq : ((l : Int) != (q : Int)) = true := by
          have h : (l : Int) ≠ (q : Int) := fun e => hlq (Int.ofNat.inj e)
          simpa using h
        have HLQ := Lib.hid hlq
        clear hlq
        have nl := ne_self (l : Int)
        clear hst
        go_wp2
        go_quiet (fail)
        go_wp2
        all_goals
          clear d1 d2
          go_roundw
          case rel => exact ⟨t1, _, rfl, HT1.out, rfl, HB.out.drwN _⟩
          case measure => exact HT2.out
    · obtain rfl : t = p := by omega
      clear hb
      go_wp2_with (go_at_call 28; refine (AW.out _).mono ?_; rintro e w9 ⟨rfl, hb9⟩)
      go_ret
      exact ⟨rfl, ((HB1.out.tr HB.out).tr hb9).bl⟩

set_option maxRecDepth 100000 in
theorem lifted (os : Os) (started : os.Started) (H : Type) (enc : TypeId × Value → H) :
    ReturnsInHanded {} Try.checked os 8 .any (Rows.piecesDivideSpec.pre6 enc Try.prog Try.f8 Rows.piecesDivideRow.domain false) (Rows.piecesDivideSpec.post enc Try.prog Try.f8 false true false false) := by
  refine returnsInHanded_of_change (C := Try.checked) own started (by kernel_rfl) Try.func8
    (ChangeSpec.witness6 (enc := enc) (C := Try.checked) false ⟨#[], #[.int .u8 0, .int .u8 0], []⟩ 8 (by kernel_rfl) (by kernel_rfl) (by kernel_rfl) (by kernel_rfl)) ?_
  intro W base args ds gs before hval0 hW hcnd _
  have hval : ∀ (j : Nat) t v, Try.f8.params[j]? = some t → args[j]? = some v → Value.okWide Try.prog W .any base t v := hval0
  have hW' := hW
  obtain ⟨p, q, hA0, hV, rfl, hfz, hnd⟩ := hW
  have hA : DataW.TrodAll enc Try.prog W 0 (fun _ => true) true Try.f8.params.toList args.toList ds p := hA0
  rw [Try.params8] at hA hval
  obtain ⟨v0, vs0, d0, ds0, p0, q0, hargs, rfl, rfl, h0, r0⟩ := trodAll_cons hA
  obtain ⟨v1, vs1, d1, ds1, p1, q1, rfl, rfl, rfl, h1, r1⟩ := trodAll_cons r0
  obtain ⟨rfl, rfl, rfl⟩ := trodAll_nil r1
  obtain rfl : args = #[v0, v1] := by cases args; simp_all
  obtain ⟨rfl, rfl⟩ := trodVars_none hV
  obtain ⟨a0, rfl, rfl, rfl, w0⟩ := open_int Try.underlying5 (hval 0 5 v0 rfl rfl) h0
  obtain ⟨a1, rfl, rfl, rfl, w1⟩ := open_int Try.underlying5 (hval 1 5 v1 rfl rfl) h1
  clear hA0 hval0
  simp only [List.append_nil] at hW'
  refine (walk a0 a1 w0 w1 W).mono fun e W' ⟨he, hg⟩ => ?_
  subst he
  exact ⟨_, rfl, post_below hW' (fun _ _ _ => (trodAll_cons_mk (shut_bool Try.underlying4 _) trodAll_mk0)) (fun sp _ => (trodAll_cons_mk (shut_int Try.underlying5 w0) (trodAll_cons_mk (shut_int Try.underlying5 w1) trodAll_mk0))) (fun _ _ => rfl) rfl hg (ok_one (by kernel_rfl) rfl (okWide_bool_mk Try.underlying4 _))⟩

theorem over : Rows.piecesDivideRow.holds Try.pinned (OpenSpec.ofChange Rows.piecesDivideSpec) :=
  OpenClaim.holds_of_wide_leaving 8 Try.f8 rfl rfl rfl rfl rfl rfl rfl ⟨rfl, rfl, rfl, rfl, rfl⟩ rfl rfl rfl rfl rfl (by kernel_rfl) Try.func8 (by kernel_rfl)
    (of_decide_eq_true (by kernel_rfl)) (by unfold Func.isWrapper; first | (rw [if_pos (by decide +kernel)]; kernel_rfl) | (rw [if_neg (by decide +kernel)]; exact ⟨rfl, rfl⟩))
    (fun os started H enc _ => Lv.leaving_of_handed (lifted os started H enc))

theorem proved : Rows.PiecesDivideSaid :=
  over
end Go.Proofs.Ytkbpcaggkngpnaa.piecesDivide
