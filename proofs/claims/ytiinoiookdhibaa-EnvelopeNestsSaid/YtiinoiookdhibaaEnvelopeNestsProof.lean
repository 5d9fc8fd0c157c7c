/- That the law EnvelopeNests returns true for every input that can be read, and leaves its arguments as they were; no further condition. -/
import Derived.Test.YtiinoiookdhibaaRows
import Derived.WalkKit
import Derived.ProofKit
import Derived.OpenShut
import Derived.Test.YtiinoiookdhibaaWords
import Derived.Test.YtiinoiookdhibaaSrcNew0
import Derived.Test.YtiinoiookdhibaaEnv4
import Derived.ShutString
import Derived.ChangeOld
import Derived.Below
namespace Go.Proofs.Ytiinoiookdhibaa.envelopeNests
open Go.ChangeShapes Go.WideShapes Go.ChangeAt Go.RowKit Wo
open Go.ChangeMaps (open_string shut_string)
set_option linter.unusedVariables false

theorem own : ownKnob Try.prog.godebug = none := by kernel_rfl
theorem laidOut : laidOutB Try.prog = true := by kernel_rfl

/-- WHAT THE WALK IS TOLD OF A SLICE OF INTEGERS THAT CAME IN: it is nil; or it leads to a row of 'cap' cells, the numbers 'zs' (the first 'len' are its elements, the rest its spare room), each fitting its kind. -/
def IsRow (k : IntKind) (w : World) (a : Option Addr) (len cap : Nat) (zs : List Int) : Prop :=
  (a = none ∧ len = 0 ∧ cap = 0 ∧ zs = []) ∨
  ∃ x, a = some x ∧ len ≤ cap ∧ cap ≤ maxLen ∧ zs.length = cap ∧ (∀ i, i < zs.length → w.cell? (x.add i) = some (.int k (zs.getD i 0))) ∧ ∀ n ∈ zs, (Lit.int k n).wf = true


open Go.Proofs.Ytiinoiookdhibaa.Ev Go.Proofs.Ytiinoiookdhibaa.Pc Go.Proofs.Ytiinoiookdhibaa.Eu Go.Proofs.Ytiinoiookdhibaa.Wi Go.Proofs.Ytiinoiookdhibaa.Wo Go.Proofs.Ytiinoiookdhibaa.Sr Go.Proofs.Ytiinoiookdhibaa.Ra in
set_option maxHeartbeats 4000000 in
set_option maxRecDepth 100000 in
theorem walk (a0 : Option Addr) (len0 cap0 : Nat) (z0 : List Int) (a1 : Int) (w : World) (w0 : IsRow .i64 w a0 len0 cap0 z0) (w1 : (Lit.int .u8 a1).wf = true) :
    Calls Try.prog 9 #[.slice a0 len0 cap0, .int .u8 a1] w fun e w' => e = .returned (.bool true) ∧ Below w.heap.size w w' := by
  obtain ⟨i1, i2⟩ := bounds_u8 w1
  have HW1 := Lib.hid w1
  clear w1
  obtain ⟨pl, rfl⟩ := Int.eq_ofNat_of_zero_le i1
  have AW : Hid (∀ W, Calls Try.prog 29 #[] W fun e w' => e = .returned (.bool true) ∧ Bel W w') := Go.Proofs.Ytiinoiookdhibaa.Ev.awake_any
  go_enter Try.func9, Try.ntmps9
  go_wp2_with fail
  go_at_call 14
  refine (new_any a0 len0 cap0 z0 w w0).mono ?_
  rintro e v1 ⟨g, rfl, hg, ho1, hb1⟩
  have HO1 := Lib.hid ho1
  have HB1 := Lib.hid hb1
  clear ho1 hb1 w0
  go_wp2_with fail
  go_at_call 27
  refine (uneven_any g _ HO1.out).mono ?_
  rintro e v2 ⟨xa, xb, ya, yb, n, m, L, M, k, rfl, n1, n2, m1, m2, hne, hcx, hcy, k0, k32, kb1, kb2, hox, hoy, lL, lM, sL, sM, ho2, hc2⟩
  have HB2 : Hid (Bel w v2) := Bel.ch HB1.out hc2 hg
  have hgv := HO1.out.lt
  have HO2 := Lib.hid ho2
  have HLL := Lib.hid (And.intro lL (And.intro lM (And.intro sL sM)))
  have ni1 : 2 ≤ (n : Int) := by omega
  have ni2 : (n : Int) ≤ 32 := by omega
  have mi1 : 2 ≤ (m : Int) := by omega
  have mi2 : (m : Int) ≤ 32 := by omega
  have HZX := Lib.hid (own_zi hox lL)
  have HZY := Lib.hid (own_zi hoy lM)
  clear ho2 hc2 hox hoy lL lM sL sM
  go_wp2_with fail
  go_at_call 28
  refine (of_ok xa xb n m L k n1 n2 m1 m2 k0 k32 kb2 kb1 HLL.out.2.2.1 _ HZX.out).mono ?_
  rintro e v3 ⟨gu, gs, U, S, rfl, he, hu, hs, hb⟩
  have HE1 := Lib.hid he
  have HB3 := Lib.hid (HB2.out.tr hb)
  have HX3 := Lib.hid (HZX.out.bel hb)
  have HU3 := Lib.hid (And.intro hu hs)
  clear he hu hs hb HZX
  obtain ⟨z, hz⟩ : ∃ z, k + (pl : Int) = z := ⟨_, rfl⟩
  have z0 : k ≤ z := by omega
  have z1 : z ≤ 300 := by omega
  have HZ := Lib.hid hz
  have zw : IntKind.i64.wrap z = z := IntWalk.i64_in _ (by omega)
  have zw2 : wrap64 z = z := IntWalk.wrap64_in _ (by omega)
  rcases Int.lt_or_le z 32 with hz32 | hz32
  all_goals
    have dz : decide (z < 32) = (decide (z < 32)) := rfl
    go_wp2_with fail
    go_at_call 28
    refine (of_ok xa xb n m L _ n1 n2 m1 m2 (by omega) (by omega) (by omega) (by omega) HLL.out.2.2.1 _ HX3.out).mono ?_
    rintro e v4 ⟨gv, gt, V, T, rfl, he, hu, hs, hb⟩
    have HWD : Hid (∀ j, j < m → U.getD j 0 ≤ V.getD j 0 ∧ T.getD j 0 ≤ S.getD j 0) := fun j hj => HE1.out.wide he (by omega) j hj
    have HB4 := Lib.hid (HB3.out.tr hb)
    have HX4 := Lib.hid (HX3.out.bel hb)
    have HU4 := Lib.hid (And.intro (HU3.out.1.bel hb) (HU3.out.2.bel hb))
    have HV4 := Lib.hid (And.intro hu hs)
    clear he hu hs hb HX3 HU3
    go_wp2_with fail
    go_at_call 28
    refine (of_ok xa xb n m L 32 n1 n2 m1 m2 (by decide) (by decide) (by omega) (by omega) HLL.out.2.2.1 _ HX4.out).mono ?_
    rintro e v5 ⟨gw, gr, X, R, rfl, he, hu, hs, hb⟩
    have HE3 := Lib.hid he
    have HB5 := Lib.hid (HB4.out.tr hb)
    have HX5 := Lib.hid (HX4.out.bel hb)
    have HU5 := Lib.hid (And.intro (HU4.out.1.bel hb) (HU4.out.2.bel hb))
    have HV5 := Lib.hid (And.intro (HV4.out.1.bel hb) (HV4.out.2.bel hb))
    have HW5 := Lib.hid (And.intro hu hs)
    clear he hu hs hb HX4 HU4 HV4
    have nm := ne_self (m : Int)
    have cx0 := HX5.out.at 0 (by omega)
    obtain ⟨x0, hx0⟩ : ∃ x, L.getD 0 0 = x := ⟨_, rfl⟩
    rw [hx0] at cx0
    have HX0 := Lib.hid hx0
    have ni0 : (0 : Int) < (n : Int) := by omega
    clear hx0 dz
    go_wp2
    go_quiet (fail)
    go_wp2
    clear nm cx0
    go_loopw [17, 18, 118] (fun s17 s18 s118 wr => ∃ (i : Nat) (Q : World) (a c : Int), Q = wr ∧ i ≤ n ∧ s118 = .int .i64 (i : Int) ∧ s17 = .int .i64 a ∧ s18 = .int .i64 c ∧ (∃ p, p < n ∧ L.getD p 0 = a) ∧ (∃ p, p < n ∧ L.getD p 0 = c) ∧ (∀ p, p < i → L.getD p 0 ≤ a ∧ c ≤ L.getD p 0) ∧ Bel v5 wr) (fun _ _ s118 _ => n - (intOf s118).toNat)
    case atStart => exact ⟨0, _, x0, x0, rfl, by omega, rfl, rfl, rfl, ⟨0, by omega, HX0.out⟩, ⟨0, by omega, HX0.out⟩, fun p hp => by omega, by first | exact Bel.rf.drwN _ | exact Bel.rf.drw | exact Bel.rf⟩
    case round =>
      obtain ⟨i, wr, a, c, hwr, hi, rfl, rfl, rfl, ha, hc, hac, hb⟩ := hrel
      subst hwr
      have HB := Lib.hid hb
      have HAC := Lib.hid (And.intro ha (And.intro hc hac))
      clear ha hc hac
      rcases Nat.lt_or_ge i n with hlt | hge
      · have cx := (HX5.out.bel hb).at i hlt
        obtain ⟨x, hx⟩ : ∃ x, L.getD i 0 = x := ⟨_, rfl⟩
        rw [hx] at cx
        have ii : (i : Int) < (n : Int) := by omega
        have HX := Lib.hid hx
        have hstep : ∀ a' c' : Int, (a' = a ∨ a' = x) → (c' = c ∨ c' = x) → a ≤ a' → x ≤ a' → c' ≤ c → c' ≤ x → (∃ p, p < n ∧ L.getD p 0 = a') ∧ (∃ p, p < n ∧ L.getD p 0 = c') ∧ (∀ p, p < i + 1 → L.getD p 0 ≤ a' ∧ c' ≤ L.getD p 0) := fun a' c' h1 h2 h3 h4 h5 h6 => by
          refine ⟨?_, ?_, fun p hp => ?_⟩
          · rcases h1 with rfl | rfl
            · exact HAC.out.1
            · exact ⟨i, hlt, HX.out⟩
          · rcases h2 with rfl | rfl
            · exact HAC.out.2.1
            · exact ⟨i, hlt, HX.out⟩
          · rcases Nat.lt_or_ge p i with h7 | h7
            · have := HAC.out.2.2 p h7; omega
            · obtain rfl : p = i := by omega
              rw [HX.out]; omega
        have HST := Lib.hid hstep
        clear hb hx hstep
        have HS : Hid _ := HST.out (max a x) (min c x) (by omega) (by omega) (by omega) (by omega) (by omega) (by omega)
        go_wp2
        go_quiet (fail)
        go_wp2
        go_roundw
        case rel => exact ⟨i + 1, _, _, _, rfl, by omega, by go_num, rfl, rfl, HS.out.1, HS.out.2.1, HS.out.2.2, by first | exact HB.out.drwN _ | exact HB.out.drw | exact HB.out⟩
        case measure => simp [intOf]; omega
      · obtain rfl : i = n := by omega
        have HWR : Hid (∀ j, j < m → X.getD j 0 = a ∧ R.getD j 0 = c) := fun j hj => by
          have h := HE3.out.2.2 j hj
          obtain ⟨⟨p1, q1, _, r1⟩, s1⟩ := h.1
          obtain ⟨⟨p2, q2, _, r2⟩, s2⟩ := h.2
          obtain ⟨⟨pa, qa, ra⟩, ⟨pc, qc, rc⟩, hall⟩ := HAC.out
          rw [HLL.out.1] at q1 q2 s1 s2
          have t1 := s1 pa qa ⟨by omega, by omega⟩
          have t2 := s2 pc qc ⟨by omega, by omega⟩
          have t3 := hall p1 q1
          have t4 := hall p2 q2
          omega
        clear hb
        go_wp2
        go_loopw [136] (fun s136 wq => ∃ (j : Nat) (Q : World), Q = wq ∧ j ≤ m ∧ s136 = .int .i64 (j : Int) ∧ Bel wr wq) (fun s136 _ => m - (intOf s136).toNat)
        case atStart => exact ⟨0, _, rfl, by omega, rfl, Bel.rf⟩
        case round =>
          obtain ⟨j, wq, hwq, hj, rfl, hb⟩ := hrel
          subst hwq
          have HBQ := Lib.hid hb
          have hbb : Bel v5 wq := HB.out.tr hb
          rcases Nat.lt_or_ge j m with hjm | hjm
          · have c1 := (HU5.out.1.bel hbb).at j hjm
            have c2 := (HU5.out.2.bel hbb).at j hjm
            have c3 := (HV5.out.1.bel hbb).at j hjm
            have c4 := (HV5.out.2.bel hbb).at j hjm
            have c5 := (HW5.out.1.bel hbb).at j hjm
            have c6 := (HW5.out.2.bel hbb).at j hjm
            have f1 := HE1.out.le j hjm
            have f2 := HWD.out j hjm
            have f3 := HWR.out j hjm
            rw [f3.1] at c5
            rw [f3.2] at c6
            obtain ⟨u, hu⟩ : ∃ x, U.getD j 0 = x := ⟨_, rfl⟩
            obtain ⟨s, hs⟩ : ∃ x, S.getD j 0 = x := ⟨_, rfl⟩
            obtain ⟨v, hv⟩ : ∃ x, V.getD j 0 = x := ⟨_, rfl⟩
            obtain ⟨t, ht⟩ : ∃ x, T.getD j 0 = x := ⟨_, rfl⟩
            rw [hu] at c1 f1 f2
            rw [hs] at c2 f1 f2
            rw [hv] at c3 f2
            rw [ht] at c4 f2
            have e1 : ¬ u < s := by omega
            have e2 : decide (u < s) = false := by simpa using f1
            have e3 : ¬ v < u := by omega
            have e4 : decide (v < u) = false := by simpa using f2.1
            have e5 : ¬ s < t := by omega
            have e6 : decide (s < t) = false := by simpa using f2.2
            have na := ne_self a
            have nc := ne_self c
            have ji : (j : Int) < (m : Int) := by omega
            clear hb hbb f1 f2 f3 hu hs hv ht
            go_wp2
            go_quiet (fail)
            go_wp2
            go_roundw
            case rel => exact ⟨j + 1, _, rfl, by omega, by go_num, by first | exact HBQ.out.drwN _ | exact HBQ.out.drw | exact HBQ.out⟩
            case measure => simp [intOf]; omega
          · obtain rfl : j = m := by omega
            clear hb hbb
            go_wp2_with (go_at_call 29; refine (AW.out _).mono ?_; rintro e w9 ⟨rfl, hb9⟩)
            go_ret
            exact ⟨rfl, ((HB5.out.tr (HB.out.tr HBQ.out)).tr hb9).bl⟩

set_option maxRecDepth 100000 in
theorem lifted (os : Os) (started : os.Started) (H : Type) (enc : TypeId × Value → H) :
    ReturnsInHanded {} Try.checked os 9 .any (Rows.envelopeNestsSpec.pre6 enc Try.prog Try.f9 Rows.envelopeNestsRow.domain false) (Rows.envelopeNestsSpec.post enc Try.prog Try.f9 false true false false) := by
  refine returnsInHanded_of_change (C := Try.checked) own started (by kernel_rfl) Try.func9
    (ChangeSpec.witness6 (enc := enc) (C := Try.checked) false ⟨#[], #[.slice none 0 0, .int .u8 0], []⟩ 8 (by kernel_rfl) (by kernel_rfl) (by kernel_rfl) (by kernel_rfl)) ?_
  intro W base args ds gs before hval0 hW hcnd _
  have hval : ∀ (j : Nat) t v, Try.f9.params[j]? = some t → args[j]? = some v → Value.okWide Try.prog W .any base t v := hval0
  have hW' := hW
  obtain ⟨p, q, hA0, hV, rfl, hfz, hnd⟩ := hW
  have hA : DataW.TrodAll enc Try.prog W 0 (fun _ => true) true Try.f9.params.toList args.toList ds p := hA0
  rw [Try.params9] at hA hval
  obtain ⟨v0, vs0, d0, ds0, p0, q0, hargs, rfl, rfl, h0, r0⟩ := trodAll_cons hA
  obtain ⟨v1, vs1, d1, ds1, p1, q1, rfl, rfl, rfl, h1, r1⟩ := trodAll_cons r0
  obtain ⟨rfl, rfl, rfl⟩ := trodAll_nil r1
  obtain rfl : args = #[v0, v1] := by cases args; simp_all
  obtain ⟨rfl, rfl⟩ := trodVars_none hV
  obtain ⟨a0, len0, cap0, rfl⟩ := okWide_slice Try.underlying22 (hval 0 22 v0 rfl rfl)
  have k0 := h0
  have lt0 : ∀ x ∈ p0, x.block < W.heap.size := by obtain ⟨m, hm⟩ := k0; exact DataW.trod_lt m _ _ _ hm
  obtain ⟨z0, w0⟩ : ∃ zs, IsRow .i64 W a0 len0 cap0 zs := by
    obtain ⟨fuel, hf⟩ := h0
    rcases open_ints Try.underlying22 Try.underlying3 (by kernel_rfl) hf with ⟨hcs, _⟩ | ⟨x, l, c, zs, hcs, _, hl, hm, hz, _, hcell, hwz⟩
    · simp [Value.cells] at hcs
      obtain ⟨rfl, rfl, rfl⟩ := hcs
      exact ⟨[], .inl ⟨rfl, rfl, rfl, rfl⟩⟩
    · simp [Value.cells] at hcs
      obtain ⟨rfl, rfl, rfl⟩ := hcs
      exact ⟨zs, .inr ⟨_, rfl, hl, hm, by simpa using hz, hcell, hwz⟩⟩
  obtain ⟨a1, rfl, rfl, rfl, w1⟩ := open_int Try.underlying5 (hval 1 5 v1 rfl rfl) h1
  clear hA0 hval0
  refine (walk a0 len0 cap0 z0 a1 W w0 w1).mono fun e W' ⟨he, bel⟩ => ?_
  subst he
  exact ⟨_, rfl, _, _, _, [], _, [], hW', trodAll_mk1 (shut_bool Try.underlying4 _), (trodAll_cons_mk (Below.trod laidOut (by kernel_rfl) (of_decide_eq_true (by kernel_rfl)) k0 bel lt0) (trodAll_cons_mk (shut_int Try.underlying5 w1) trodAll_mk0)), rfl, bel.frame _, fun h => by cases h⟩

theorem over : Rows.envelopeNestsRow.holds Try.pinned (OpenSpec.ofChange Rows.envelopeNestsSpec) :=
  OpenClaim.holds_of_wide 9 Try.f9 rfl rfl rfl rfl rfl rfl rfl ⟨rfl, rfl, rfl, rfl, rfl⟩ rfl rfl rfl rfl rfl (by kernel_rfl) Try.func9 (by kernel_rfl)
    (of_decide_eq_true (by kernel_rfl)) (by unfold Func.isWrapper; first | (rw [if_pos (by decide +kernel)]; kernel_rfl) | (rw [if_neg (by decide +kernel)]; exact ⟨rfl, rfl⟩))
    (fun os started H enc _ => lifted os started H enc)

theorem proved : Rows.EnvelopeNestsSaid := over
end Go.Proofs.Ytiinoiookdhibaa.envelopeNests
