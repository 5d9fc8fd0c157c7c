/- That the law SeriesRuns returns true for every input that can be read, and leaves its arguments as they were; no further condition. -/
import Derived.Test.YthpmgadmefhfpaaRows
import Derived.WalkKit
import Derived.ProofKit
import Derived.OpenShut
import Derived.Test.YthpmgadmefhfpaaWords
import Derived.Test.YthpmgadmefhfpaaSrcNew0
import Derived.Test.YthpmgadmefhfpaaSerD
import Derived.ShutString
import Derived.ChangeOld
import Derived.Below
namespace Go.Proofs.Ythpmgadmefhfpaa.seriesRuns
open Go.ChangeShapes Go.WideShapes Go.ChangeAt Go.RowKit Wo
open Go.ChangeMaps (open_string shut_string)
set_option linter.unusedVariables false

theorem own : ownKnob Try.prog.godebug = none := by kernel_rfl
theorem laidOut : laidOutB Try.prog = true := by kernel_rfl

/-- WHAT THE WALK IS TOLD OF A SLICE OF INTEGERS THAT CAME IN: it is nil; or it leads to a row of 'cap' cells, the numbers 'zs' (the first 'len' are its elements, the rest its spare room), each fitting its kind. -/
def IsRow (k : IntKind) (w : World) (a : Option Addr) (len cap : Nat) (zs : List Int) : Prop :=
  (a = none ∧ len = 0 ∧ cap = 0 ∧ zs = []) ∨
  ∃ x, a = some x ∧ len ≤ cap ∧ cap ≤ maxLen ∧ zs.length = cap ∧ (∀ i, i < zs.length → w.cell? (x.add i) = some (.int k (zs.getD i 0))) ∧ ∀ n ∈ zs, (Lit.int k n).wf = true

open Go.Proofs.Ythpmgadmefhfpaa.Se Go.Proofs.Ythpmgadmefhfpaa.Wi Go.Proofs.Ythpmgadmefhfpaa.Wo Go.Proofs.Ythpmgadmefhfpaa.Sr in
set_option maxHeartbeats 4000000 in
set_option maxRecDepth 100000 in
theorem walk (a0 : Option Addr) (len0 cap0 : Nat) (z0 : List Int) (w : World) (w0 : IsRow .i64 w a0 len0 cap0 z0) :
    Calls Try.prog 3 #[.slice a0 len0 cap0] w fun e w' => e = .returned (.bool true) ∧ Below w.heap.size w w' := by
  have AW : Hid (∀ W, Calls Try.prog 11 #[] W fun e w' => e = .returned (.bool true) ∧ Bel W w') := awake_any
  go_enter Try.func3, Try.ntmps3
  go_wp2_with fail
  go_at_call 8
  refine (new_any a0 len0 cap0 z0 w w0).mono ?_
  rintro e v1 ⟨g, rfl, hg, ho1, hb1⟩
  have HO1 := Lib.hid ho1
  have HB1 := Lib.hid hb1
  clear ho1 hb1 w0
  go_wp2_with fail
  go_at_call 9
  refine (series_any g 40 (by decide) _ HO1.out).mono ?_
  rintro e v2 ⟨st, sp, A, n, c, L, rfl, st0, st1, sp0, sp1, n40, hsv, hvs, _, _, hc⟩
  have HB2 : Hid (Bel w v2) := Bel.ch HB1.out hc hg
  have HSB : Hid (Sb st sp n) := ⟨st0, by omega, sp0, sp1, by omega⟩
  have HSV := Lib.hid hsv
  have HVS := Lib.hid hvs
  have HL := Lib.hid hvs.1.1
  have HS := Lib.hid (Bk.nw v2 24 #[.int .i64 st, .int .i64 sp, .slice A n c])
  have HB0 : Hid (Bel w (v2.alloc (.cells #[.int .i64 st, .int .i64 sp, .slice A n c] 24))) := HB2.out.al _
  have HV0 : Hid (Vs (v2.alloc (.cells #[.int .i64 st, .int .i64 sp, .slice A n c] 24)) A n c L) := hvs.bel (Bel.rf.al _)
  obtain ⟨V0, hV0⟩ : ∃ V0, v2.alloc (.cells #[.int .i64 st, .int .i64 sp, .slice A n c] 24) = V0 := ⟨_, rfl⟩
  rw [hV0] at HS HB0 HV0
  have ni : (n : Int) ≤ 40 := by omega
  clear hsv hvs hc
  have s0 : V0.cell? ⟨v2.heap.size, 0, none⟩ = some (.int .i64 st) := HS.out.cell 0
  have s1 : V0.cell? ⟨v2.heap.size, 1, none⟩ = some (.int .i64 sp) := HS.out.cell 1
  have s2 : V0.cell? ⟨v2.heap.size, 2, none⟩ = some (.slice A n c) := HS.out.cell 2
  have sl := HS.out.lt
  have HLL := HL.out
  go_wp2_with fail
  (try rw [hV0])
  go_wp2_with fail
  go_at_call 10
  refine (runs_c st sp A n c L HSB.out HSV.out _ HV0.out.1).mono ?_
  rintro e v3 ⟨A3, m, c3, rfl, hm, hz3, hb3⟩
  have HSUM := Lib.hid (sm_cnt L)
  have HLE := Lib.hid (sm_le (rns L 0 0))
  have HED : Hid (∀ t, t < m → ed (rns L 0 0) t < (fr (rns L 0 0) t : Int)) := fun t ht => ed_lt (by rw [← hm]; exact ht)
  have HAS : Hid (∀ t, t < m → 1 ≤ ct (rns L 0 0) t ∧ fr (rns L 0 0) t + ct (rns L 0 0) t ≤ n ∧ ∀ j, j < ct (rns L 0 0) t → L.getD (fr (rns L 0 0) t + j) 0 ≠ 1073741824) := fun t ht => by
    have h := asc_at (rns L 0 0) (-1) t (asc_all L) (by rw [← hm]; exact ht)
    rw [HL.out] at h
    refine ⟨h.2.2.1, h.2.2.2.1, fun j hj => ?_⟩
    have := h.2.2.2.2 j hj
    rwa [getD_two (by have := HL.out; have := h.2.2.2.1; omega)] at this
  have HML : Hid (m ≤ 40) := by have := runs_len L; have := HL.out; show m ≤ 40; omega
  rw [← hm] at HSUM
  obtain ⟨R, hR⟩ : ∃ R, rns L 0 0 = R := ⟨_, rfl⟩
  rw [hR] at HSUM HLE HED HAS hz3
  have HZ3 := Lib.hid hz3
  have HB3 := Lib.hid hb3
  have HC := Lib.hid (cnt_le L)
  have mi : (m : Int) ≤ 40 := by have := HML.out; omega
  clear hm hR hz3 hb3 s0 s1 s2 sl HLL
  have HR0 : Hid (∃ (t : Nat) (V : World), V = v3 ∧ t ≤ m ∧ (Value.int .i64 0) = .int .i64 (t : Int) ∧ (Value.int .i64 (-1)) = .int .i64 (ed R t) ∧ (Value.int .i64 0) = .int .i64 (sm R t : Int) ∧ Bel v3 V) := ⟨0, _, rfl, Nat.zero_le _, rfl, rfl, rfl, Bel.rf⟩
  go_wp2
  go_loopw [5, 6, 17] (fun s5 s6 s17 wr => ∃ (t : Nat) (V : World), V = wr ∧ t ≤ m ∧ s17 = .int .i64 (t : Int) ∧ s5 = .int .i64 (ed R t) ∧ s6 = .int .i64 (sm R t : Int) ∧ Bel v3 V) (fun _ _ s17 _ => m - (intOf s17).toNat)
  case atStart => exact HR0.out
  case round =>
    clear HR0
    obtain ⟨t, wr, hwr, ht, rfl, rfl, rfl, hb⟩ := hrel
    subst hwr
    have HB := Lib.hid hb
    have d2 : wr.cell? ⟨v2.heap.size, 2, none⟩ = some (.slice A n c) := (HS.out.bel (HB3.out.tr hb)).cell 2
    rcases Nat.lt_or_ge t m with htm | htm
    · obtain ⟨Q, rfl, hql, hqc⟩ := (HZ3.out.bel hb).2 (by omega)
      have hfk := HAS.out t htm
      have hE := HED.out t htm
      have hS := HLE.out m (t + 1) htm
      have hS2 : sm R (t + 1) = sm R t + ct R t := rfl
      have hD2 : ed R (t + 1) = (fr R t : Int) + (ct R t : Int) := rfl
      have c1 := (hqc t htm).1
      have c2 := (hqc t htm).2
      obtain ⟨f, hf⟩ : ∃ f, fr R t = f := ⟨_, rfl⟩
      obtain ⟨k, hk⟩ : ∃ f, ct R t = f := ⟨_, rfl⟩
      obtain ⟨E, hEE⟩ : ∃ f, ed R t = f := ⟨_, rfl⟩
      obtain ⟨S, hSS⟩ : ∃ f, sm R t = f := ⟨_, rfl⟩
      rw [hf, hk] at hfk
      rw [hf, hEE] at hE
      rw [hSS, hk] at hS2
      rw [hf, hk] at hD2
      rw [hf] at c1
      rw [hk] at c2
      rw [hEE, hSS]
      obtain ⟨k1, fkn, hpr⟩ := hfk
      have hsum := HSUM.out
      have hcn := HC.out
      have HLn := HL.out
      have sk : S + k ≤ 40 := by omega
      have HK := Lib.hid (And.intro hf (And.intro hk (And.intro hS2 (And.intro hD2 hpr))))
      clear hf hk hEE hSS hS hS2 hD2 hpr hsum hcn HLn hqc hql hb
      have g1 : ¬ (f : Int) ≤ E := by omega
      have g1d : decide ((f : Int) ≤ E) = false := decide_eq_false g1
      have g2 : ¬ k < 1 := by omega
      have g2d : decide (k < 1) = false := decide_eq_false g2
      have g2e : ¬ (k : Int) < 1 := by omega
      have g2f : decide ((k : Int) < 1) = false := decide_eq_false g2e
      have g3 : ¬ (n : Int) - (k : Int) < (f : Int) := by omega
      have g3d : decide ((n : Int) - (k : Int) < (f : Int)) = false := decide_eq_false g3
      have wnk : IntKind.i64.wrap ((n : Int) - (k : Int)) = (n : Int) - (k : Int) := IntWalk.i64_in _ (by omega)
      have tmi : (t : Int) < (m : Int) := by omega
      go_wp2
      go_quiet (fail)
      clear c1 c2 d2 g1 g1d g2 g2d g2e g2f g3 g3d wnk
      go_wp2
      go_loopw [8] (fun s8 wr => ∃ (u : Nat) (V : World), V = wr ∧ u ≤ k ∧ s8 = .int .i64 (u : Int) ∧ Bel v3 V) (fun s8 _ => k - (intOf s8).toNat)
      case atStart => exact ⟨0, _, rfl, Nat.zero_le _, rfl, by first | exact HB.out | exact HB.out.drw | exact HB.out.drwN _⟩
      case round =>
        clear HB
        obtain ⟨u, wr, hwr, hu, rfl, hb⟩ := hrel
        subst hwr
        have HB := Lib.hid hb
        obtain ⟨Q', e, hql, hqc⟩ := (HZ3.out.bel hb).2 (by omega)
        injection e with e
        injection e with e _ _
        subst e
        have c1 := (hqc t htm).1
        have c2 := (hqc t htm).2
        rw [HK.out.1] at c1
        rw [HK.out.2.1] at c2
        have d2 : wr.cell? ⟨v2.heap.size, 2, none⟩ = some (.slice A n c) := (HS.out.bel (HB3.out.tr hb)).cell 2
        clear hql hqc
        rcases Nat.lt_or_ge u k with huk | huk
        · obtain ⟨G, hG⟩ : ∃ G, A = some ⟨G, 0, none⟩ := by
            rcases HV0.out.2.2 with ⟨h1, h2⟩ | h
            · exfalso; have := HV0.out.2.1; omega
            · exact h
          subst hG
          obtain ⟨z, hz⟩ : ∃ z, f + u = z := ⟨_, rfl⟩
          have hzi : (f : Int) + (u : Int) = (z : Int) := by omega
          have zn : z < n := by omega
          have zni : (z : Int) < (n : Int) := by omega
          have c3 := ((HV0.out.bel HB3.out).bel hb).1.at z zn
          have hy := HK.out.2.2.2.2 u huk
          rw [hz] at hy
          obtain ⟨y, hyy⟩ : ∃ y, L.getD z 0 = y := ⟨_, rfl⟩
          rw [hyy] at hy c3
          have hyb : (y == 1073741824) = false := by simpa using hy
          have wz1 : IntKind.i64.wrap ((f : Int) + (u : Int)) = (z : Int) := by rw [hzi]; exact IntWalk.i64_in _ (by omega)
          have ui : (u : Int) < (k : Int) := by omega
          clear hb hz hyy
          go_wp2
          go_quiet (fail)
          go_wp2
          go_roundw
          case rel => exact ⟨u + 1, _, rfl, by omega, by go_num, by first | exact HB.out | exact HB.out.drw | exact HB.out.drwN _⟩
          case measure => simp [intOf]; omega
        · obtain rfl : u = k := by omega
          have w1 : IntKind.i64.wrap ((f : Int) + (u : Int)) = (f : Int) + (u : Int) := IntWalk.i64_in _ (by omega)
          have w2 : IntKind.i64.wrap ((S : Int) + (u : Int)) = (S : Int) + (u : Int) := IntWalk.i64_in _ (by omega)
          clear hb d2
          go_wp2
          go_quiet (fail)
          clear w1 w2 c1 c2
          go_wp2
          go_roundw
          case rel => exact ⟨t + 1, _, rfl, by omega, by go_num, by rw [HK.out.2.2.2.1], by rw [HK.out.2.2.1]; go_num, by first | exact HB.out | exact HB.out.drw | exact HB.out.drwN _⟩
          case measure => simp [intOf]; omega
    · obtain rfl : t = m := by omega
      rw [HSUM.out]
      have hcn := HC.out
      have HLn := HL.out
      have HR1 : Hid (∃ (u : Nat) (V : World), V = wr ∧ u ≤ n ∧ (Value.int .i64 0) = .int .i64 (u : Int) ∧ (Value.int .i64 (cnt L : Int)) = .int .i64 ((cnt L : Int) - (cnt (L.take u) : Int)) ∧ Bel v3 V) := ⟨0, _, rfl, Nat.zero_le _, rfl, by simp [cnt], HB.out⟩
      obtain ⟨CN, hCN⟩ : ∃ c, cnt L = c := ⟨_, rfl⟩
      rw [hCN] at HR1 hcn ⊢
      have HCN := Lib.hid hCN
      have cnb : CN ≤ 40 := by omega
      clear hb hCN hcn
      go_wp2
      go_loopw [6, 95] (fun s6 s95 wr => ∃ (u : Nat) (V : World), V = wr ∧ u ≤ n ∧ s95 = .int .i64 (u : Int) ∧ s6 = .int .i64 ((CN : Int) - (cnt (L.take u) : Int)) ∧ Bel v3 V) (fun _ s95 _ => n - (intOf s95).toNat)
      case atStart => exact HR1.out
      case round =>
        clear HR1 HB d2
        obtain ⟨u, wr, hwr, hu, rfl, rfl, hb⟩ := hrel
        subst hwr
        have HB := Lib.hid hb
        have d2 : wr.cell? ⟨v2.heap.size, 2, none⟩ = some (.slice A n c) := (HS.out.bel (HB3.out.tr hb)).cell 2
        rcases Nat.lt_or_ge u n with hun | hun
        · obtain ⟨G, hG⟩ : ∃ G, A = some ⟨G, 0, none⟩ := by
            rcases HV0.out.2.2 with ⟨h1, h2⟩ | h
            · exfalso; have := HV0.out.2.1; omega
            · exact h
          subst hG
          have c3 := ((HV0.out.bel HB3.out).bel hb).1.at u hun
          have hct := cnt_take L u (by omega)
          rw [getD_two (by omega)] at hct
          obtain ⟨y, hyy⟩ : ∃ y, L.getD u 0 = y := ⟨_, rfl⟩
          rw [hyy] at hct c3
          have hb1 : cnt (L.take u) ≤ (L.take u).length := cnt_le _
          have hb2 : (L.take u).length ≤ u := List.length_take_le _ _
          obtain ⟨p, hp⟩ : ∃ p, cnt (L.take u) = p := ⟨_, rfl⟩
          rw [hp] at hct hb1
          have HP := Lib.hid hct
          rw [hp]
          have pb : p ≤ 40 := by omega
          have ui : (u : Int) < (n : Int) := by omega
          clear hb hyy hct hb1 hb2 hp
          by_cases hy : y = 1073741824
          · subst hy
            go_wp2
            go_roundw
            case rel => exact ⟨u + 1, _, rfl, by omega, by go_num, by rw [HP.out, if_pos rfl, Nat.add_zero], by first | exact HB.out | exact HB.out.drw | exact HB.out.drwN _⟩
            case measure => simp [intOf]; omega
          · have hyb : (y != 1073741824) = true := by simpa using hy
            go_wp2
            go_roundw
            case rel => exact ⟨u + 1, _, rfl, by omega, by go_num, by rw [HP.out, if_neg hy]; congr 1; omega, by first | exact HB.out | exact HB.out.drw | exact HB.out.drwN _⟩
            case measure => simp [intOf]; omega
        · obtain rfl : u = n := by omega
          rw [List.take_of_length_le (by omega), HCN.out]
          have hz0 : (CN : Int) - (CN : Int) = 0 := by omega
          rw [hz0]
          clear hb hz0
          go_wp2_with (go_at_call 11; refine (AW.out _).mono ?_; rintro e v9 ⟨rfl, hb9⟩)
          go_ret
          exact ⟨rfl, (HB0.out.tr (HB3.out.tr (HB.out.tr hb9))).bl⟩

set_option maxRecDepth 100000 in
theorem lifted (os : Os) (started : os.Started) (H : Type) (enc : TypeId × Value → H) :
    ReturnsInHanded {} Try.checked os 3 .any (Rows.seriesRunsSpec.pre6 enc Try.prog Try.f3 Rows.seriesRunsRow.domain false) (Rows.seriesRunsSpec.post enc Try.prog Try.f3 false true false false) := by
  refine returnsInHanded_of_change (C := Try.checked) own started (by kernel_rfl) Try.func3
    (ChangeSpec.witness6 (enc := enc) (C := Try.checked) false ⟨#[], #[.slice none 0 0], []⟩ 8 (by kernel_rfl) (by kernel_rfl) (by kernel_rfl) (by kernel_rfl)) ?_
  intro W base args ds gs before hval0 hW hcnd _
  have hval : ∀ (j : Nat) t v, Try.f3.params[j]? = some t → args[j]? = some v → Value.okWide Try.prog W .any base t v := hval0
  have hW' := hW
  obtain ⟨p, q, hA0, hV, rfl, hfz, hnd⟩ := hW
  have hA : DataW.TrodAll enc Try.prog W 0 (fun _ => true) true Try.f3.params.toList args.toList ds p := hA0
  rw [Try.params3] at hA hval
  obtain ⟨v0, vs0, d0, ds0, p0, q0, hargs, rfl, rfl, h0, r0⟩ := trodAll_cons hA
  obtain ⟨rfl, rfl, rfl⟩ := trodAll_nil r0
  obtain rfl : args = #[v0] := by cases args; simp_all
  obtain ⟨rfl, rfl⟩ := trodVars_none hV
  obtain ⟨a0, len0, cap0, rfl⟩ := okWide_slice Try.underlying22 (hval 0 22 v0 rfl rfl)
  have k0 := h0
  have lt0 : ∀ x ∈ p0, x.block < W.heap.size := by obtain ⟨m, hm⟩ := k0; exact DataW.trod_lt m _ _ _ hm
  obtain ⟨z0, w0⟩ : ∃ zs, IsRow .i64 W a0 len0 cap0 zs := by
    obtain ⟨fuel, hf⟩ := h0
    rcases open_ints Try.underlying22 Try.underlying3 (by kernel_rfl) hf with ⟨hcs, _⟩ | ⟨x, l, c, zs, hcs, _, hl, hm, hz, _, hcell, hwz⟩
    · simp [Value.cells] at hcs
      obtain ⟨rfl, rfl, rfl⟩ := hcs
      exact ⟨[], .inl ⟨rfl, rfl, rfl, rfl⟩⟩
    · simp [Value.cells] at hcs
      obtain ⟨rfl, rfl, rfl⟩ := hcs
      exact ⟨zs, .inr ⟨_, rfl, hl, hm, by simpa using hz, hcell, hwz⟩⟩
  clear hA0 hval0
  refine (walk a0 len0 cap0 z0 W w0).mono fun e W' ⟨he, bel⟩ => ?_
  subst he
  exact ⟨_, rfl, _, _, _, [], _, [], hW', trodAll_mk1 (shut_bool Try.underlying4 _), (trodAll_cons_mk (Below.trod laidOut (by kernel_rfl) (of_decide_eq_true (by kernel_rfl)) k0 bel lt0) trodAll_mk0), rfl, bel.frame _, fun h => by cases h⟩

theorem over : Rows.seriesRunsRow.holds Try.pinned (OpenSpec.ofChange Rows.seriesRunsSpec) :=
  OpenClaim.holds_of_wide 3 Try.f3 rfl rfl rfl rfl rfl rfl rfl ⟨rfl, rfl, rfl, rfl, rfl⟩ rfl rfl rfl rfl rfl (by kernel_rfl) Try.func3 (by kernel_rfl)
    (of_decide_eq_true (by kernel_rfl)) (by unfold Func.isWrapper; first | (rw [if_pos (by decide +kernel)]; kernel_rfl) | (rw [if_neg (by decide +kernel)]; exact ⟨rfl, rfl⟩))
    (fun os started H enc _ => lifted os started H enc)

theorem proved : Rows.SeriesRunsSaid := over
end Go.Proofs.Ythpmgadmefhfpaa.seriesRuns
