/- That the law EnvelopeHolds returns true for every input that can be read, and leaves its arguments as they were; no further condition. -/
import Derived.Test.YtiinoiookdhibaaRows
import Derived.WalkKit
import Derived.ProofKit
import Derived.OpenShut
import Derived.Test.YtiinoiookdhibaaWords
import Derived.Test.YtiinoiookdhibaaSrcNew0
import Derived.Test.YtiinoiookdhibaaEnv4
import Derived.ShutString
import Derived.ChangeOld
import Derived.Below
namespace Go.Proofs.Ytiinoiookdhibaa.envelopeHolds
open Go.ChangeShapes Go.WideShapes Go.ChangeAt Go.RowKit Wo
open Go.ChangeMaps (open_string shut_string)
set_option linter.unusedVariables false

theorem own : ownKnob Try.prog.godebug = none := by kernel_rfl
theorem laidOut : laidOutB Try.prog = true := by kernel_rfl

/-- WHAT THE WALK IS TOLD OF A SLICE OF INTEGERS THAT CAME IN: it is nil; or it leads to a row of 'cap' cells, the numbers 'zs' (the first 'len' are its elements, the rest its spare room), each fitting its kind. -/
def IsRow (k : IntKind) (w : World) (a : Option Addr) (len cap : Nat) (zs : List Int) : Prop :=
  (a = none ∧ len = 0 ∧ cap = 0 ∧ zs = []) ∨
  ∃ x, a = some x ∧ len ≤ cap ∧ cap ≤ maxLen ∧ zs.length = cap ∧ (∀ i, i < zs.length → w.cell? (x.add i) = some (.int k (zs.getD i 0))) ∧ ∀ n ∈ zs, (Lit.int k n).wf = true

section
open Go.Proofs.Ytiinoiookdhibaa.Wi
def Att (X : List Int) (k : Int) (j : Nat) (v : Int) (i : Nat) (b : Bool) : Prop := b = true ↔ ∃ p, p < i ∧ Bnd k p j ∧ X.getD p 0 = v
theorem Att.zero (X : List Int) (k : Int) (j : Nat) (v : Int) : Att X k j v 0 false := ⟨fun h => (by cases h), fun ⟨p, h, _⟩ => by omega⟩
theorem Att.out {X : List Int} {k : Int} {j i : Nat} {v : Int} {b : Bool} (hn : ¬ Bnd k i j) (h : Att X k j v i b) : Att X k j v (i + 1) b := by
  refine ⟨fun hb => ?_, fun ⟨p, hp, hB, e⟩ => ?_⟩
  · obtain ⟨p, hp, hB, e⟩ := h.1 hb
    exact ⟨p, by omega, hB, e⟩
  · rcases Nat.lt_or_ge p i with h1 | h1
    · exact h.2 ⟨p, h1, hB, e⟩
    · obtain rfl : p = i := by omega
      exact absurd hB hn
theorem Att.hit {X : List Int} {k : Int} {j i : Nat} {v : Int} (hB : Bnd k i j) (e : X.getD i 0 = v) : Att X k j v (i + 1) true := ⟨fun _ => ⟨i, by omega, hB, e⟩, fun _ => rfl⟩
theorem Att.mis {X : List Int} {k : Int} {j i : Nat} {v : Int} {b : Bool} (hn : X.getD i 0 ≠ v) (h : Att X k j v i b) : Att X k j v (i + 1) b := by
  refine ⟨fun hb => ?_, fun ⟨p, hp, hB, e⟩ => ?_⟩
  · obtain ⟨p, hp, hB, e⟩ := h.1 hb
    exact ⟨p, by omega, hB, e⟩
  · rcases Nat.lt_or_ge p i with h1 | h1
    · exact h.2 ⟨p, h1, hB, e⟩
    · obtain rfl : p = i := by omega
      exact absurd e hn
theorem Att.old {X : List Int} {k : Int} {j i : Nat} {v : Int} (h : Att X k j v i true) : Att X k j v (i + 1) true := by
  obtain ⟨p, hp, hB, e⟩ := h.1 rfl
  exact ⟨fun _ => ⟨p, by omega, hB, e⟩, fun _ => rfl⟩
end
open Go.Proofs.Ytiinoiookdhibaa.Ev Go.Proofs.Ytiinoiookdhibaa.Pc Go.Proofs.Ytiinoiookdhibaa.Eu Go.Proofs.Ytiinoiookdhibaa.Wi Go.Proofs.Ytiinoiookdhibaa.Wo Go.Proofs.Ytiinoiookdhibaa.Sr Go.Proofs.Ytiinoiookdhibaa.Ra in
set_option maxHeartbeats 4000000 in
set_option maxRecDepth 100000 in
theorem walk (a0 : Option Addr) (len0 cap0 : Nat) (z0 : List Int) (a1 : Int) (w : World) (w0 : IsRow .i64 w a0 len0 cap0 z0) (w1 : (Lit.int .u8 a1).wf = true) :
    Calls Try.prog 8 #[.slice a0 len0 cap0, .int .u8 a1] w fun e w' => e = .returned (.bool true) ∧ Below w.heap.size w w' := by
  obtain ⟨i1, i2⟩ := bounds_u8 w1
  have HW1 := Lib.hid w1
  clear w1
  obtain ⟨pl, rfl⟩ := Int.eq_ofNat_of_zero_le i1
  have AW : Hid (∀ W, Calls Try.prog 29 #[] W fun e w' => e = .returned (.bool true) ∧ Bel W w') := Go.Proofs.Ytiinoiookdhibaa.Ev.awake_any
  go_enter Try.func8, Try.ntmps8
  go_wp2_with fail
  go_at_call 14
  refine (new_any a0 len0 cap0 z0 w w0).mono ?_
  rintro e v1 ⟨g, rfl, hg, ho1, hb1⟩
  have HO1 := Lib.hid ho1
  have HB1 := Lib.hid hb1
  clear ho1 hb1 w0
  go_wp2_with fail
  go_at_call 27
  refine (uneven_any g _ HO1.out).mono ?_
  rintro e v2 ⟨xa, xb, ya, yb, n, m, L, M, k, rfl, n1, n2, m1, m2, hne, hcx, hcy, k0, k32, kb1, kb2, hox, hoy, lL, lM, sL, sM, ho2, hc2⟩
  have HB2 : Hid (Bel w v2) := Bel.ch HB1.out hc2 hg
  have hgv := HO1.out.lt
  have HO2 := Lib.hid ho2
  have HLL := Lib.hid (And.intro lL (And.intro lM (And.intro sL sM)))
  have ni1 : 2 ≤ (n : Int) := by omega
  have ni2 : (n : Int) ≤ 32 := by omega
  have mi1 : 2 ≤ (m : Int) := by omega
  have mi2 : (m : Int) ≤ 32 := by omega
  have HZX := Lib.hid (own_zi hox lL)
  have HZY := Lib.hid (own_zi hoy lM)
  clear ho2 hc2 hox hoy lL lM sL sM
  go_wp2_with fail
  go_at_call 28
  refine (of_ok xa xb n m L k n1 n2 m1 m2 k0 k32 kb2 kb1 HLL.out.2.2.1 _ HZX.out).mono ?_
  rintro e v3 ⟨gu, gl, U, S, rfl, he, hu, hl, hb⟩
  have HE := Lib.hid he
  have HB3 := Lib.hid (HB2.out.tr hb)
  have HX3 := Lib.hid (HZX.out.bel hb)
  have HU3 := Lib.hid (And.intro hu hl)
  have nm := ne_self (m : Int)
  obtain ⟨J, hJ⟩ : ∃ J : Nat, pl % m = J := ⟨_, rfl⟩
  have hJm : J < m := by rw [← hJ]; exact Nat.mod_lt _ (by omega)
  have hJi : (pl : Int).tmod (m : Int) = (J : Int) := by rw [Int.tmod_eq_emod_of_nonneg (by omega), ← Int.natCast_emod, hJ]
  have m0 : ¬ (m : Int) = 0 := by omega
  have Ji : (J : Int) < (m : Int) := by omega
  have hmx := he.2.2 J hJm
  have bu := (he.sam HLL.out.2.2.1).1.at J
  have bs := (he.sam HLL.out.2.2.1).2.at J
  have hu1 := hu.at J hJm
  have hl1 := hl.at J hJm
  obtain ⟨u, hue⟩ : ∃ u, U.getD J 0 = u := ⟨_, rfl⟩
  obtain ⟨s, hse⟩ : ∃ u, S.getD J 0 = u := ⟨_, rfl⟩
  rw [hue] at hmx hu1 bu
  rw [hse] at hmx hl1 bs
  have HMX := Lib.hid hmx
  have HCU : Hid (∀ W, Bel v3 W → W.cell? ⟨gu, J, none⟩ = some (.int .i64 u) ∧ W.cell? ⟨gl, J, none⟩ = some (.int .i64 s)) := fun W hW => ⟨by have := (hu.bel hW).at J hJm; rwa [hue] at this, by have := (hl.bel hW).at J hJm; rwa [hse] at this⟩
  clear he hb hu hl hmx hu1 hl1 hue hse hJ
  go_wp2
  clear hJi m0
  go_loopw [12, 13, 54] (fun s12 s13 s54 wr => ∃ (i : Nat) (V : World) (p q : Bool), V = wr ∧ i ≤ n ∧ s54 = .int .i64 (i : Int) ∧ s12 = .bool p ∧ s13 = .bool q ∧ Att L k J u i p ∧ Att L k J s i q ∧ Bel v3 wr) (fun _ _ s54 _ => n - (intOf s54).toNat)
  case atStart => exact ⟨0, _, false, false, rfl, by omega, rfl, rfl, rfl, Att.zero L k J u, Att.zero L k J s, Bel.rf⟩
  case round =>
    obtain ⟨i, wr, p, q, hwr, hi, rfl, rfl, rfl, hp, hq, hb⟩ := hrel
    subst hwr
    have HB := Lib.hid hb
    have HP := Lib.hid hp
    have HQ := Lib.hid hq
    obtain ⟨cu, cs⟩ := HCU.out _ hb
    clear hp hq
    rcases Nat.lt_or_ge i n with hlt | hge
    · have cx := (HX3.out.bel hb).at i hlt
      have bx := HLL.out.2.2.1.at i
      obtain ⟨x, hx⟩ : ∃ x, L.getD i 0 = x := ⟨_, rfl⟩
      rw [hx] at cx bx
      have ii : (i : Int) < (n : Int) := by omega
      have HX := Lib.hid hx
      have i0 : 0 ≤ (i : Int) := by omega
      have J0 : 0 ≤ (J : Int) := by omega
      clear hb hx
      rcases Int.lt_or_le k ((i : Int) - (J : Int)) with h1 | h1
      · have d1 : decide (k < (i : Int) - (J : Int)) = true := by simpa using h1
        have HN : Hid (¬ Bnd k i J) := fun h => by have := h.1; omega
        go_wp2
        go_roundw
        case rel => exact ⟨i + 1, _, p, q, rfl, by omega, by go_num, rfl, rfl, HP.out.out HN.out, HQ.out.out HN.out, HB.out⟩
        case measure => simp [intOf]; omega
      · have d1 : decide (k < (i : Int) - (J : Int)) = false := by simpa using h1
        have d2 : ¬ k < (i : Int) - (J : Int) := by omega
        rcases Int.lt_or_le k ((J : Int) - (i : Int)) with h2 | h2
        · have d3 : decide (k < (J : Int) - (i : Int)) = true := by simpa using h2
          have HN : Hid (¬ Bnd k i J) := fun h => by have := h.2; omega
          go_wp2
          go_roundw
          case rel => exact ⟨i + 1, _, p, q, rfl, by omega, by go_num, rfl, rfl, HP.out.out HN.out, HQ.out.out HN.out, HB.out⟩
          case measure => simp [intOf]; omega
        · have d3 : decide (k < (J : Int) - (i : Int)) = false := by simpa using h2
          have d4 : ¬ k < (J : Int) - (i : Int) := by omega
          have hB : Bnd k i J := ⟨h1, h2⟩
          have HBN := Lib.hid hB
          have g1 := HMX.out.1.2 i (by rw [HLL.out.1]; exact hlt) hB
          have g2 := HMX.out.2.2 i (by rw [HLL.out.1]; exact hlt) hB
          rw [HX.out] at g1 g2
          have d5 : ¬ u < x := by omega
          have d6 : decide (u < x) = false := by simpa using g1
          have d7 : ¬ x < s := by omega
          have d8 : decide (x < s) = false := by simpa using g2
          clear hB h1 h2
          rcases p with _ | _
          · rcases Classical.em (u = x) with rfl | hxu
            · have e1 := (show (u == u) = true by simp)
              rcases q with _ | _
              · rcases Classical.em (s = u) with hxs | hxs
                · have e2 : (u == s) = true := by rw [hxs]; simp
                  go_wp2
                  go_quiet (fail)
                  go_wp2
                  go_quiet (fail)
                  go_wp2
                  go_roundw
                  case rel => exact ⟨i + 1, _, true, true, rfl, by omega, by go_num, by first | rfl | simp, by first | rfl | simp, Att.hit HBN.out HX.out, Att.hit HBN.out (HX.out.trans (by first | rfl | exact hxs.symm)), by first | exact HB.out.drwN _ | exact HB.out.drw | exact HB.out⟩
                  case measure => simp [intOf]; omega
                · have e2 : (u == s) = false := by simpa using fun e => hxs (Eq.symm e)
                  go_wp2
                  go_quiet (fail)
                  go_wp2
                  go_quiet (fail)
                  go_wp2
                  go_roundw
                  case rel => exact ⟨i + 1, _, true, false, rfl, by omega, by go_num, by first | rfl | simp, by first | rfl | simp, Att.hit HBN.out HX.out, HQ.out.mis (by rw [HX.out]; exact fun e => hxs e.symm), by first | exact HB.out.drwN _ | exact HB.out.drw | exact HB.out⟩
                  case measure => simp [intOf]; omega
              · go_wp2
                go_quiet (fail)
                go_wp2
                go_quiet (fail)
                go_wp2
                go_roundw
                case rel => exact ⟨i + 1, _, true, true, rfl, by omega, by go_num, by first | rfl | simp, by first | rfl | simp, Att.hit HBN.out HX.out, HQ.out.old, by first | exact HB.out.drwN _ | exact HB.out.drw | exact HB.out⟩
                case measure => simp [intOf]; omega
            · have e1 : (x == u) = false := by simpa using fun e => hxu (Eq.symm e)
              rcases q with _ | _
              · rcases Classical.em (s = x) with hxs | hxs
                · have e2 : (x == s) = true := by rw [hxs]; simp
                  go_wp2
                  go_quiet (fail)
                  go_wp2
                  go_quiet (fail)
                  go_wp2
                  go_roundw
                  case rel => exact ⟨i + 1, _, false, true, rfl, by omega, by go_num, by first | rfl | simp, by first | rfl | simp, HP.out.mis (by rw [HX.out]; exact fun e => hxu e.symm), Att.hit HBN.out (HX.out.trans (by first | rfl | exact hxs.symm)), by first | exact HB.out.drwN _ | exact HB.out.drw | exact HB.out⟩
                  case measure => simp [intOf]; omega
                · have e2 : (x == s) = false := by simpa using fun e => hxs (Eq.symm e)
                  go_wp2
                  go_quiet (fail)
                  go_wp2
                  go_quiet (fail)
                  go_wp2
                  go_roundw
                  case rel => exact ⟨i + 1, _, false, false, rfl, by omega, by go_num, by first | rfl | simp, by first | rfl | simp, HP.out.mis (by rw [HX.out]; exact fun e => hxu e.symm), HQ.out.mis (by rw [HX.out]; exact fun e => hxs e.symm), by first | exact HB.out.drwN _ | exact HB.out.drw | exact HB.out⟩
                  case measure => simp [intOf]; omega
              · go_wp2
                go_quiet (fail)
                go_wp2
                go_quiet (fail)
                go_wp2
                go_roundw
                case rel => exact ⟨i + 1, _, false, true, rfl, by omega, by go_num, by first | rfl | simp, by first | rfl | simp, HP.out.mis (by rw [HX.out]; exact fun e => hxu e.symm), HQ.out.old, by first | exact HB.out.drwN _ | exact HB.out.drw | exact HB.out⟩
                case measure => simp [intOf]; omega
          · skip
            rcases q with _ | _
            · rcases Classical.em (s = x) with hxs | hxs
              · have e2 : (x == s) = true := by rw [hxs]; simp
                go_wp2
                go_quiet (fail)
                go_wp2
                go_quiet (fail)
                go_wp2
                go_roundw
                case rel => exact ⟨i + 1, _, true, true, rfl, by omega, by go_num, by first | rfl | simp, by first | rfl | simp, HP.out.old, Att.hit HBN.out (HX.out.trans (by first | rfl | exact hxs.symm)), by first | exact HB.out.drwN _ | exact HB.out.drw | exact HB.out⟩
                case measure => simp [intOf]; omega
              · have e2 : (x == s) = false := by simpa using fun e => hxs (Eq.symm e)
                go_wp2
                go_quiet (fail)
                go_wp2
                go_quiet (fail)
                go_wp2
                go_roundw
                case rel => exact ⟨i + 1, _, true, false, rfl, by omega, by go_num, by first | rfl | simp, by first | rfl | simp, HP.out.old, HQ.out.mis (by rw [HX.out]; exact fun e => hxs e.symm), by first | exact HB.out.drwN _ | exact HB.out.drw | exact HB.out⟩
                case measure => simp [intOf]; omega
            · go_wp2
              go_quiet (fail)
              go_wp2
              go_quiet (fail)
              go_wp2
              go_roundw
              case rel => exact ⟨i + 1, _, true, true, rfl, by omega, by go_num, by first | rfl | simp, by first | rfl | simp, HP.out.old, HQ.out.old, by first | exact HB.out.drwN _ | exact HB.out.drw | exact HB.out⟩
              case measure => simp [intOf]; omega
    · obtain rfl : i = n := by omega
      have hp1 : p = true := HP.out.2 (by obtain ⟨t, h1, h2, h3⟩ := HMX.out.1.1; exact ⟨t, by rw [← HLL.out.1]; exact h1, h2, h3⟩)
      have hq1 : q = true := HQ.out.2 (by obtain ⟨t, h1, h2, h3⟩ := HMX.out.2.1; exact ⟨t, by rw [← HLL.out.1]; exact h1, h2, h3⟩)
      subst hp1
      subst hq1
      clear hb
      go_wp2_with (go_at_call 29; refine (AW.out _).mono ?_; rintro e w9 ⟨rfl, hb9⟩)
      go_ret
      exact ⟨rfl, ((HB3.out.tr HB.out).tr hb9).bl⟩

set_option maxRecDepth 100000 in
theorem lifted (os : Os) (started : os.Started) (H : Type) (enc : TypeId × Value → H) :
    ReturnsInHanded {} Try.checked os 8 .any (Rows.envelopeHoldsSpec.pre6 enc Try.prog Try.f8 Rows.envelopeHoldsRow.domain false) (Rows.envelopeHoldsSpec.post enc Try.prog Try.f8 false true false false) := by
  refine returnsInHanded_of_change (C := Try.checked) own started (by kernel_rfl) Try.func8
    (ChangeSpec.witness6 (enc := enc) (C := Try.checked) false ⟨#[], #[.slice none 0 0, .int .u8 0], []⟩ 8 (by kernel_rfl) (by kernel_rfl) (by kernel_rfl) (by kernel_rfl)) ?_
  intro W base args ds gs before hval0 hW hcnd _
  have hval : ∀ (j : Nat) t v, Try.f8.params[j]? = some t → args[j]? = some v → Value.okWide Try.prog W .any base t v := hval0
  have hW' := hW
  obtain ⟨p, q, hA0, hV, rfl, hfz, hnd⟩ := hW
  have hA : DataW.TrodAll enc Try.prog W 0 (fun _ => true) true Try.f8.params.toList args.toList ds p := hA0
  rw [Try.params8] at hA hval
  obtain ⟨v0, vs0, d0, ds0, p0, q0, hargs, rfl, rfl, h0, r0⟩ := trodAll_cons hA
  obtain ⟨v1, vs1, d1, ds1, p1, q1, rfl, rfl, rfl, h1, r1⟩ := trodAll_cons r0
  obtain ⟨rfl, rfl, rfl⟩ := trodAll_nil r1
  obtain rfl : args = #[v0, v1] := by cases args; simp_all
  obtain ⟨rfl, rfl⟩ := trodVars_none hV
  obtain ⟨a0, len0, cap0, rfl⟩ := okWide_slice Try.underlying22 (hval 0 22 v0 rfl rfl)
  have k0 := h0
  have lt0 : ∀ x ∈ p0, x.block < W.heap.size := by obtain ⟨m, hm⟩ := k0; exact DataW.trod_lt m _ _ _ hm
  obtain ⟨z0, w0⟩ : ∃ zs, IsRow .i64 W a0 len0 cap0 zs := by
    obtain ⟨fuel, hf⟩ := h0
    rcases open_ints Try.underlying22 Try.underlying3 (by kernel_rfl) hf with ⟨hcs, _⟩ | ⟨x, l, c, zs, hcs, _, hl, hm, hz, _, hcell, hwz⟩
    · simp [Value.cells] at hcs
      obtain ⟨rfl, rfl, rfl⟩ := hcs
      exact ⟨[], .inl ⟨rfl, rfl, rfl, rfl⟩⟩
    · simp [Value.cells] at hcs
      obtain ⟨rfl, rfl, rfl⟩ := hcs
      exact ⟨zs, .inr ⟨_, rfl, hl, hm, by simpa using hz, hcell, hwz⟩⟩
  obtain ⟨a1, rfl, rfl, rfl, w1⟩ := open_int Try.underlying5 (hval 1 5 v1 rfl rfl) h1
  clear hA0 hval0
  refine (walk a0 len0 cap0 z0 a1 W w0 w1).mono fun e W' ⟨he, bel⟩ => ?_
  subst he
  exact ⟨_, rfl, _, _, _, [], _, [], hW', trodAll_mk1 (shut_bool Try.underlying4 _), (trodAll_cons_mk (Below.trod laidOut (by kernel_rfl) (of_decide_eq_true (by kernel_rfl)) k0 bel lt0) (trodAll_cons_mk (shut_int Try.underlying5 w1) trodAll_mk0)), rfl, bel.frame _, fun h => by cases h⟩

theorem over : Rows.envelopeHoldsRow.holds Try.pinned (OpenSpec.ofChange Rows.envelopeHoldsSpec) :=
  OpenClaim.holds_of_wide 8 Try.f8 rfl rfl rfl rfl rfl rfl rfl ⟨rfl, rfl, rfl, rfl, rfl⟩ rfl rfl rfl rfl rfl (by kernel_rfl) Try.func8 (by kernel_rfl)
    (of_decide_eq_true (by kernel_rfl)) (by unfold Func.isWrapper; first | (rw [if_pos (by decide +kernel)]; kernel_rfl) | (rw [if_neg (by decide +kernel)]; exact ⟨rfl, rfl⟩))
    (fun os started H enc _ => lifted os started H enc)

theorem proved : Rows.EnvelopeHoldsSaid := over
end Go.Proofs.Ytiinoiookdhibaa.envelopeHolds
