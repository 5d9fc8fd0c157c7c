/- That the law ResampleReach returns true for every input that can be read, and leaves its arguments as they were; no further condition. -/
import Derived.Test.YtdkibffbaamkkaaRows
import Derived.WalkKit
import Derived.ProofKit
import Derived.OpenShut
import Derived.Test.YtdkibffbaamkkaaWords
import Derived.Test.YtdkibffbaamkkaaSrcNew0
import Derived.Test.YtdkibffbaamkkaaRes6
import Derived.ShutString
import Derived.ChangeOld
import Derived.Below
namespace Go.Proofs.Ytdkibffbaamkkaa.resampleReach
open Go.ChangeShapes Go.WideShapes Go.ChangeAt Go.RowKit Wo
open Go.ChangeMaps (open_string shut_string)
set_option linter.unusedVariables false

theorem own : ownKnob Try.prog.godebug = none := by kernel_rfl
theorem laidOut : laidOutB Try.prog = true := by kernel_rfl

/-- WHAT THE WALK IS TOLD OF A SLICE OF INTEGERS THAT CAME IN: it is nil; or it leads to a row of 'cap' cells, the numbers 'zs' (the first 'len' are its elements, the rest its spare room), each fitting its kind. -/
def IsRow (k : IntKind) (w : World) (a : Option Addr) (len cap : Nat) (zs : List Int) : Prop :=
  (a = none ∧ len = 0 ∧ cap = 0 ∧ zs = []) ∨
  ∃ x, a = some x ∧ len ≤ cap ∧ cap ≤ maxLen ∧ zs.length = cap ∧ (∀ i, i < zs.length → w.cell? (x.add i) = some (.int k (zs.getD i 0))) ∧ ∀ n ∈ zs, (Lit.int k n).wf = true

open Go.Proofs.Ytdkibffbaamkkaa.Rg Go.Proofs.Ytdkibffbaamkkaa.Rm Go.Proofs.Ytdkibffbaamkkaa.Wi Go.Proofs.Ytdkibffbaamkkaa.Wo Go.Proofs.Ytdkibffbaamkkaa.Sr in
set_option maxHeartbeats 4000000 in
set_option maxRecDepth 100000 in
theorem walk (a0 : Option Addr) (len0 cap0 : Nat) (z0 : List Int) (a1 : Int) (a2 : Int) (a3 : Int) (a4 : Int) (w : World) (w0 : IsRow .i64 w a0 len0 cap0 z0) (w1 : (Lit.int .u8 a1).wf = true) (w2 : (Lit.int .u8 a2).wf = true) (w3 : (Lit.int .u8 a3).wf = true) (w4 : (Lit.int .u8 a4).wf = true) :
    Calls Try.prog 8 #[.slice a0 len0 cap0, .int .u8 a1, .int .u8 a2, .int .u8 a3, .int .u8 a4] w fun e w' => e = .returned (.bool true) ∧ Below w.heap.size w w' := by
  obtain ⟨t0, t1⟩ := bounds_u8 w1
  obtain ⟨p0, p1⟩ := bounds_u8 w2
  obtain ⟨m0, m1⟩ := bounds_u8 w3
  obtain ⟨r0, r1⟩ := bounds_u8 w4
  clear w1 w2 w3 w4
  have AW : Hid (∀ W, Calls Try.prog 23 #[] W fun e w' => e = .returned (.bool true) ∧ Bel W w') := awake_ok
  have HGR : Hid (∀ r q W, Calls Try.prog 22 #[.int .i64 r, .int .i64 q] W fun e w' => e = .returned (.agg #[.int .i64 0, .int .i64 1, .int .i64 0, .int .i64 r, .int .i64 q]) ∧ Bel W w') := grid_ok
  go_enter Try.func8, Try.ntmps8
  go_wp2_with fail
  go_at_call 13
  refine (new_any a0 len0 cap0 z0 w w0).mono ?_
  rintro e v1 ⟨g, rfl, hg, ho1, hb1⟩
  have HO1 := Lib.hid ho1
  have HB1 := Lib.hid hb1
  clear ho1 hb1 w0
  go_wp2_with fail
  go_at_call 20
  refine (ascending_any g 10 (by decide) _ HO1.out).mono ?_
  rintro e v2 ⟨v, k, l, rfl, hown, hl, hk, hs, hx0, ho2, hc2⟩
  have HB2 : Hid (Bel w v2) := Bel.ch HB1.out hc2 hg
  obtain ⟨A, ca, rfl, hz⟩ := own_zr hown hl
  have HZ := Lib.hid hz
  have HS := Lib.hid hs
  have ki : (k : Int) ≤ 10 := by omega
  obtain ⟨r, hr⟩ : ∃ r, a4 % 3 = r := ⟨_, rfl⟩
  have hrr : 0 ≤ r ∧ r ≤ 2 := by omega
  obtain ⟨hr0, hr2⟩ := hrr
  obtain ⟨T, hT⟩ : ∃ T, (if 0 < k then a1 + tm l 0 else a1) = T := ⟨_, rfl⟩
  have hTT : 0 ≤ T ∧ T ≤ 1099511627776 := by
    split at hT
    · have := hx0 (by assumption)
      have := (hs.1 0 (by omega)).1
      omega
    · omega
  obtain ⟨T0, T1⟩ := hTT
  have HAT : Hid (∀ (q : Int) W, 0 ≤ q → q ≤ 1000 → Bel v2 W → Calls Try.prog 21 #[.slice A k ca, .agg #[.int .i64 0, .int .i64 1, .int .i64 0, .int .i64 (1 + r), .int .i64 q], .int .i64 T] W _) := fun q W q0 q1 hW => at_ok A ca k l (by omega) hs 0 1 0 (1 + r) q T (by unfold Gv; omega) T0 T1 W (hz.bel hW)
  have hre := val_reach l (1 + r) a2 (a2 + a3) T (by omega)
  have H1 : Hid (∀ W, Bel v2 W → _) := fun W hW => HAT.out a2 W p0 (by omega) hW
  have H2 : Hid (∀ W, Bel v2 W → _) := fun W hW => HAT.out (a2 + a3) W (by omega) (by omega) hW
  obtain ⟨p, hp⟩ : ∃ p, val l (1 + r) a2 T = p := ⟨_, rfl⟩
  obtain ⟨q, hq⟩ : ∃ p, val l (1 + r) (a2 + a3) T = p := ⟨_, rfl⟩
  rw [hp, hq] at hre
  rw [hp] at H1
  rw [hq] at H2
  obtain ⟨x, b⟩ := p
  obtain ⟨y, c⟩ := q
  simp only [] at H1 H2 hre
  clear hown ho2 hc2 hs hl hp hq HAT
  rcases Nat.eq_zero_or_pos k with hk0 | hkp
  · subst hk0
    rw [if_neg (by decide)] at hT
    subst hT
    clear hz
    rcases b with _ | _
    · go_wp2_with fail
      go_at_call 22
      refine (HGR.out _ _ _).mono ?_
      rintro e w3 ⟨rfl, hb3⟩
      have HB3 : Hid (Bel v2 w3) := by first | exact hb3 | exact (Bel.rf.drwN _).tr hb3
      clear hb3
      go_wp2_with fail
      go_at_call 21
      refine (H1.out _ (by first | exact HB3.out | exact HB3.out.drwN _)).mono ?_
      rintro e w4 ⟨rfl, hb4⟩
      have HB4 : Hid (Bel v2 w4) := by first | exact HB3.out.tr hb4 | exact (HB3.out.drwN _).tr hb4
      clear hb4
      go_wp2_with fail
      go_at_call 22
      refine (HGR.out _ _ _).mono ?_
      rintro e w5 ⟨rfl, hb5⟩
      have HB5 : Hid (Bel v2 w5) := by first | exact HB4.out.tr hb5 | exact (HB4.out.drwN _).tr hb5
      clear hb5
      go_wp2_with fail
      go_at_call 21
      refine (H2.out _ (by first | exact HB5.out | exact HB5.out.drwN _)).mono ?_
      rintro e w6 ⟨rfl, hb6⟩
      have HB6 : Hid (Bel v2 w6) := by first | exact HB5.out.tr hb6 | exact (HB5.out.drwN _).tr hb6
      clear hb6
      go_wp2_with (go_at_call 23; refine (AW.out _).mono ?_; rintro e w9 ⟨rfl, hb9⟩)
      go_ret
      exact ⟨rfl, (HB2.out.tr (by first | exact HB6.out.tr hb9 | exact (HB6.out.drwN _).tr hb9)).bl⟩
    · obtain ⟨rfl, rfl⟩ : y = x ∧ c = true := by have := hre rfl; injection this with h1 h2; exact ⟨h1, h2⟩
      have xx : (y == y) = true := by simp
      go_wp2_with fail
      go_at_call 22
      refine (HGR.out _ _ _).mono ?_
      rintro e w3 ⟨rfl, hb3⟩
      have HB3 : Hid (Bel v2 w3) := by first | exact hb3 | exact (Bel.rf.drwN _).tr hb3
      clear hb3
      go_wp2_with fail
      go_at_call 21
      refine (H1.out _ (by first | exact HB3.out | exact HB3.out.drwN _)).mono ?_
      rintro e w4 ⟨rfl, hb4⟩
      have HB4 : Hid (Bel v2 w4) := by first | exact HB3.out.tr hb4 | exact (HB3.out.drwN _).tr hb4
      clear hb4
      go_wp2_with fail
      go_at_call 22
      refine (HGR.out _ _ _).mono ?_
      rintro e w5 ⟨rfl, hb5⟩
      have HB5 : Hid (Bel v2 w5) := by first | exact HB4.out.tr hb5 | exact (HB4.out.drwN _).tr hb5
      clear hb5
      go_wp2_with fail
      go_at_call 21
      refine (H2.out _ (by first | exact HB5.out | exact HB5.out.drwN _)).mono ?_
      rintro e w6 ⟨rfl, hb6⟩
      have HB6 : Hid (Bel v2 w6) := by first | exact HB5.out.tr hb6 | exact (HB5.out.drwN _).tr hb6
      clear hb6
      go_wp2_with (go_at_call 23; refine (AW.out _).mono ?_; rintro e w9 ⟨rfl, hb9⟩)
      go_ret
      exact ⟨rfl, (HB2.out.tr (by first | exact HB6.out.tr hb9 | exact (HB6.out.drwN _).tr hb9)).bl⟩
  · obtain ⟨gb, rfl, hgl, hgc⟩ := hz.2 hkp
    rw [if_pos hkp] at hT
    have c0 := (hgc 0 hkp).1
    rw [Nat.zero_mul] at c0
    obtain ⟨X, hX⟩ : ∃ X, tm l 0 = X := ⟨_, rfl⟩
    rw [hX] at c0 hT
    have wT : wrap64 T = T := IntWalk.wrap64_in _ (by omega)
    have k0 : (0 : Int) < (k : Int) := by omega
    clear hz hgl hgc hX hx0
    rcases b with _ | _
    · go_wp2_with fail
      go_at_call 22
      refine (HGR.out _ _ _).mono ?_
      rintro e w3 ⟨rfl, hb3⟩
      have HB3 : Hid (Bel v2 w3) := by first | exact hb3 | exact (Bel.rf.drwN _).tr hb3
      clear hb3
      go_wp2_with fail
      go_at_call 21
      refine (H1.out _ (by first | exact HB3.out | exact HB3.out.drwN _)).mono ?_
      rintro e w4 ⟨rfl, hb4⟩
      have HB4 : Hid (Bel v2 w4) := by first | exact HB3.out.tr hb4 | exact (HB3.out.drwN _).tr hb4
      clear hb4
      go_wp2_with fail
      go_at_call 22
      refine (HGR.out _ _ _).mono ?_
      rintro e w5 ⟨rfl, hb5⟩
      have HB5 : Hid (Bel v2 w5) := by first | exact HB4.out.tr hb5 | exact (HB4.out.drwN _).tr hb5
      clear hb5
      go_wp2_with fail
      go_at_call 21
      refine (H2.out _ (by first | exact HB5.out | exact HB5.out.drwN _)).mono ?_
      rintro e w6 ⟨rfl, hb6⟩
      have HB6 : Hid (Bel v2 w6) := by first | exact HB5.out.tr hb6 | exact (HB5.out.drwN _).tr hb6
      clear hb6
      go_wp2_with (go_at_call 23; refine (AW.out _).mono ?_; rintro e w9 ⟨rfl, hb9⟩)
      go_ret
      exact ⟨rfl, (HB2.out.tr (by first | exact HB6.out.tr hb9 | exact (HB6.out.drwN _).tr hb9)).bl⟩
    · obtain ⟨rfl, rfl⟩ : y = x ∧ c = true := by have := hre rfl; injection this with h1 h2; exact ⟨h1, h2⟩
      have xx : (y == y) = true := by simp
      go_wp2_with fail
      go_at_call 22
      refine (HGR.out _ _ _).mono ?_
      rintro e w3 ⟨rfl, hb3⟩
      have HB3 : Hid (Bel v2 w3) := by first | exact hb3 | exact (Bel.rf.drwN _).tr hb3
      clear hb3
      go_wp2_with fail
      go_at_call 21
      refine (H1.out _ (by first | exact HB3.out | exact HB3.out.drwN _)).mono ?_
      rintro e w4 ⟨rfl, hb4⟩
      have HB4 : Hid (Bel v2 w4) := by first | exact HB3.out.tr hb4 | exact (HB3.out.drwN _).tr hb4
      clear hb4
      go_wp2_with fail
      go_at_call 22
      refine (HGR.out _ _ _).mono ?_
      rintro e w5 ⟨rfl, hb5⟩
      have HB5 : Hid (Bel v2 w5) := by first | exact HB4.out.tr hb5 | exact (HB4.out.drwN _).tr hb5
      clear hb5
      go_wp2_with fail
      go_at_call 21
      refine (H2.out _ (by first | exact HB5.out | exact HB5.out.drwN _)).mono ?_
      rintro e w6 ⟨rfl, hb6⟩
      have HB6 : Hid (Bel v2 w6) := by first | exact HB5.out.tr hb6 | exact (HB5.out.drwN _).tr hb6
      clear hb6
      go_wp2_with (go_at_call 23; refine (AW.out _).mono ?_; rintro e w9 ⟨rfl, hb9⟩)
      go_ret
      exact ⟨rfl, (HB2.out.tr (by first | exact HB6.out.tr hb9 | exact (HB6.out.drwN _).tr hb9)).bl⟩

set_option maxRecDepth 100000 in
theorem lifted (os : Os) (started : os.Started) (H : Type) (enc : TypeId × Value → H) :
    ReturnsInHanded {} Try.checked os 8 .any (Rows.resampleReachSpec.pre6 enc Try.prog Try.f8 Rows.resampleReachRow.domain false) (Rows.resampleReachSpec.post enc Try.prog Try.f8 false true false false) := by
  refine returnsInHanded_of_change (C := Try.checked) own started (by kernel_rfl) Try.func8
    (ChangeSpec.witness6 (enc := enc) (C := Try.checked) false ⟨#[], #[.slice none 0 0, .int .u8 0, .int .u8 0, .int .u8 0, .int .u8 0], []⟩ 8 (by kernel_rfl) (by kernel_rfl) (by kernel_rfl) (by kernel_rfl)) ?_
  intro W base args ds gs before hval0 hW hcnd _
  have hval : ∀ (j : Nat) t v, Try.f8.params[j]? = some t → args[j]? = some v → Value.okWide Try.prog W .any base t v := hval0
  have hW' := hW
  obtain ⟨p, q, hA0, hV, rfl, hfz, hnd⟩ := hW
  have hA : DataW.TrodAll enc Try.prog W 0 (fun _ => true) true Try.f8.params.toList args.toList ds p := hA0
  rw [Try.params8] at hA hval
  obtain ⟨v0, vs0, d0, ds0, p0, q0, hargs, rfl, rfl, h0, r0⟩ := trodAll_cons hA
  obtain ⟨v1, vs1, d1, ds1, p1, q1, rfl, rfl, rfl, h1, r1⟩ := trodAll_cons r0
  obtain ⟨v2, vs2, d2, ds2, p2, q2, rfl, rfl, rfl, h2, r2⟩ := trodAll_cons r1
  obtain ⟨v3, vs3, d3, ds3, p3, q3, rfl, rfl, rfl, h3, r3⟩ := trodAll_cons r2
  obtain ⟨v4, vs4, d4, ds4, p4, q4, rfl, rfl, rfl, h4, r4⟩ := trodAll_cons r3
  obtain ⟨rfl, rfl, rfl⟩ := trodAll_nil r4
  obtain rfl : args = #[v0, v1, v2, v3, v4] := by cases args; simp_all
  obtain ⟨rfl, rfl⟩ := trodVars_none hV
  obtain ⟨a0, len0, cap0, rfl⟩ := okWide_slice Try.underlying22 (hval 0 22 v0 rfl rfl)
  have k0 := h0
  have lt0 : ∀ x ∈ p0, x.block < W.heap.size := by obtain ⟨m, hm⟩ := k0; exact DataW.trod_lt m _ _ _ hm
  obtain ⟨z0, w0⟩ : ∃ zs, IsRow .i64 W a0 len0 cap0 zs := by
    obtain ⟨fuel, hf⟩ := h0
    rcases open_ints Try.underlying22 Try.underlying3 (by kernel_rfl) hf with ⟨hcs, _⟩ | ⟨x, l, c, zs, hcs, _, hl, hm, hz, _, hcell, hwz⟩
    · simp [Value.cells] at hcs
      obtain ⟨rfl, rfl, rfl⟩ := hcs
      exact ⟨[], .inl ⟨rfl, rfl, rfl, rfl⟩⟩
    · simp [Value.cells] at hcs
      obtain ⟨rfl, rfl, rfl⟩ := hcs
      exact ⟨zs, .inr ⟨_, rfl, hl, hm, by simpa using hz, hcell, hwz⟩⟩
  obtain ⟨a1, rfl, rfl, rfl, w1⟩ := open_int Try.underlying5 (hval 1 5 v1 rfl rfl) h1
  obtain ⟨a2, rfl, rfl, rfl, w2⟩ := open_int Try.underlying5 (hval 2 5 v2 rfl rfl) h2
  obtain ⟨a3, rfl, rfl, rfl, w3⟩ := open_int Try.underlying5 (hval 3 5 v3 rfl rfl) h3
  obtain ⟨a4, rfl, rfl, rfl, w4⟩ := open_int Try.underlying5 (hval 4 5 v4 rfl rfl) h4
  clear hA0 hval0
  refine (walk a0 len0 cap0 z0 a1 a2 a3 a4 W w0 w1 w2 w3 w4).mono fun e W' ⟨he, bel⟩ => ?_
  subst he
  exact ⟨_, rfl, _, _, _, [], _, [], hW', trodAll_mk1 (shut_bool Try.underlying4 _), (trodAll_cons_mk (Below.trod laidOut (by kernel_rfl) (of_decide_eq_true (by kernel_rfl)) k0 bel lt0) (trodAll_cons_mk (shut_int Try.underlying5 w1) (trodAll_cons_mk (shut_int Try.underlying5 w2) (trodAll_cons_mk (shut_int Try.underlying5 w3) (trodAll_cons_mk (shut_int Try.underlying5 w4) trodAll_mk0))))), rfl, bel.frame _, fun h => by cases h⟩

theorem over : Rows.resampleReachRow.holds Try.pinned (OpenSpec.ofChange Rows.resampleReachSpec) :=
  OpenClaim.holds_of_wide 8 Try.f8 rfl rfl rfl rfl rfl rfl rfl ⟨rfl, rfl, rfl, rfl, rfl⟩ rfl rfl rfl rfl rfl (by kernel_rfl) Try.func8 (by kernel_rfl)
    (of_decide_eq_true (by kernel_rfl)) (by unfold Func.isWrapper; first | (rw [if_pos (by decide +kernel)]; kernel_rfl) | (rw [if_neg (by decide +kernel)]; exact ⟨rfl, rfl⟩))
    (fun os started H enc _ => lifted os started H enc)

theorem proved : Rows.ResampleReachSaid := over
end Go.Proofs.Ytdkibffbaamkkaa.resampleReach
