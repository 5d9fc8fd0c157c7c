/- That the law EuclidProfiles returns true for every input that can be read, and leaves its arguments as they were; no further condition. -/
import Derived.Test.YtbmibdgdabgcbaaRows
import Derived.WalkKit
import Derived.ProofKit
import Derived.OpenShut
import Derived.Test.YtbmibdgdabgcbaaWords
import Derived.Test.YtbmibdgdabgcbaaSrcNew0
import Derived.Test.YtbmibdgdabgcbaaSrcLen
import Derived.Test.YtbmibdgdabgcbaaEucAwake
import Derived.ShutString
import Derived.ChangeOld
import Derived.Below
namespace Go.Proofs.Ytbmibdgdabgcbaa.euclidProfiles
open Go.ChangeShapes Go.WideShapes Go.ChangeAt Go.RowKit Wo
open Go.ChangeMaps (open_string shut_string)
set_option linter.unusedVariables false

theorem own : ownKnob Try.prog.godebug = none := by kernel_rfl
theorem laidOut : laidOutB Try.prog = true := by kernel_rfl

/-- WHAT THE WALK IS TOLD OF A SLICE OF INTEGERS THAT CAME IN: it is nil; or it leads to a row of 'cap' cells, the numbers 'zs' (the first 'len' are its elements, the rest its spare room), each fitting its kind. -/
def IsRow (k : IntKind) (w : World) (a : Option Addr) (len cap : Nat) (zs : List Int) : Prop :=
  (a = none ∧ len = 0 ∧ cap = 0 ∧ zs = []) ∨
  ∃ x, a = some x ∧ len ≤ cap ∧ cap ≤ maxLen ∧ zs.length = cap ∧ (∀ i, i < zs.length → w.cell? (x.add i) = some (.int k (zs.getD i 0))) ∧ ∀ n ∈ zs, (Lit.int k n).wf = true

open Go.Proofs.Ytbmibdgdabgcbaa.Eu Go.Proofs.Ytbmibdgdabgcbaa.Wi Go.Proofs.Ytbmibdgdabgcbaa.Wo Go.Proofs.Ytbmibdgdabgcbaa.Sr Go.Proofs.Ytbmibdgdabgcbaa.Ra in
set_option maxHeartbeats 16000000 in
set_option maxRecDepth 100000 in
theorem walk (a0 : Option Addr) (len0 cap0 : Nat) (z0 : List Int) (a1 : Int) (w : World) (w0 : IsRow .i64 w a0 len0 cap0 z0) (w1 : (Lit.int .u8 a1).wf = true) :
    Calls Try.prog 7 #[.slice a0 len0 cap0, .int .u8 a1] w fun e w' => e = .returned (.bool true) ∧ Below w.heap.size w w' := by
  have b1 := bounds_u8 w1
  obtain ⟨i1, i2⟩ := b1
  have HW := Lib.hid w1
  clear w1
  have AW : Hid (∀ W, Calls Try.prog 14 #[] W fun e w' => e = .returned (.bool true) ∧ Bel W w') := awake_any
  go_enter Try.func7, Try.ntmps7
  go_wp2_with fail
  go_at_call 8
  refine (new_any a0 len0 cap0 z0 w w0).mono ?_
  rintro e v1 ⟨g, rfl, hg, ho1, hb1⟩
  have HO1 := Lib.hid ho1
  have HB1 := Lib.hid hb1
  clear ho1 hb1 w0
  go_wp2_with fail
  go_at_call 20
  refine (range_any g 2 40 (by decide) (by decide) (by decide) _ HO1.out).mono ?_
  rintro e v2 ⟨T0, rfl, t0, t1, ho2, hc2⟩
  obtain ⟨T, rfl⟩ := Int.eq_ofNat_of_zero_le (show 0 ≤ T0 by omega)
  have HO2 := Lib.hid ho2
  have HB2 : Hid (Bel w v2) := Bel.ch HB1.out hc2 hg
  clear ho2 hc2
  go_wp2_with fail
  go_at_call 19
  refine (list_any g T (by omega) _ HO2.out).mono ?_
  rintro e v3 ⟨v, Z, rfl, hown, hL, hS, ho3, hc3⟩
  have HB3 : Hid (Bel w v3) := Bel.ch HB2.out hc3 hg
  have HO3 := Lib.hid ho3
  have HL := Lib.hid hL
  have HS := Lib.hid hS
  obtain ⟨h, c, rfl, hcap, hh⟩ := row_form hown (by omega)
  have HZ := Lib.hid (own_zi hown hL)
  have hgh : h ≠ g := by have := HO2.out.lt; omega
  clear hown hL hS ho3 hc3
  rcases Int.lt_or_le 12 (T : Int) with h12 | h12
  all_goals
    go_wp2_with fail
    go_at_call 20
    first
      | (with_reducible refine (range_any g 2 12 (by decide) (by decide) (by decide) _ HO3.out).mono ?_)
      | (with_reducible refine (range_any g 2 (T : Int) (by decide) (by omega) (by omega) _ HO3.out).mono ?_)
    rintro e v4 ⟨n0, rfl, n1, n2, ho4, hc4⟩
    obtain ⟨n, rfl⟩ := Int.eq_ofNat_of_zero_le (show 0 ≤ n0 by omega)
    have HB4 : Hid (Bel w v4) := Bel.ch HB3.out hc4 hg
    have HZ4 := Lib.hid (HZ.out.ch hc4 (fun ad e => by cases e; exact hgh))
    have n3 : (n : Int) ≤ (T : Int) := by omega
    have n4 : (n : Int) ≤ 12 := by omega
    clear ho4 hc4 n2
    have m0 := Int.emod_nonneg a1 (b := (T : Int) - (n : Int) + 1) (by omega)
    have m1 := Int.emod_lt_of_pos a1 (b := (T : Int) - (n : Int) + 1) (by omega)
    have HM : Hid (∀ W, Calls Try.prog 17 #[.int .i64 a1, .int .i64 ((T : Int) - (n : Int) + 1)] W fun e w' => e = .returned (.int .i64 (a1 % ((T : Int) - (n : Int) + 1))) ∧ W = w') := fun W => mod_any a1 _ (by omega) (by omega) (by omega) (by omega) W
    obtain ⟨i, hi⟩ := Int.eq_ofNat_of_zero_le m0
    rw [hi] at m1 HM
    have hik : i + n ≤ T := by omega
    have ii : (i : Int) + (n : Int) ≤ (T : Int) := by omega
    have ci : (T : Int) ≤ (c : Int) := by omega
    clear m0 hi
    obtain ⟨N, hN⟩ : ∃ N, T + 1 - n = N := ⟨_, rfl⟩
    have hNi : (T : Int) - (n : Int) + 1 = (N : Int) := by omega
    have N0 : 0 < (N : Int) := by omega
    have iN : i < N := by omega
    have iNi : (i : Int) < (N : Int) := by omega
    obtain ⟨Q, hQ⟩ : ∃ Q, (Z.drop i).take n = Q := ⟨_, rfl⟩
    have sQ : Sam Q := by rw [← hQ]; exact (HS.out.drop i).take n
    have lQ : Q.length = n := by rw [← hQ]; simp; have := HL.out; omega
    have HPR : Hid (∀ W, Bel v4 W → Calls Try.prog 21 #[.slice (some ⟨h, i, none⟩) n (c - i), .slice (some ⟨h, 0, none⟩) T c] W fun e w' => ∃ v, e = .returned (.tuple #[v, .int .i64 0]) ∧ w'.ownsRow W.heap.size 3 1 v N (zs (prof Q Z n N)) ∧ Bel W w') := fun W hW =>
      profile_ok (some ⟨h, i, none⟩) (c - i) n h c T N Q Z (by omega) (by omega) (by omega) (by omega) hN hcap sQ HS.out W (by rw [← hQ]; exact zi_sub (HZ4.out.bel hW) i n hik) (HZ4.out.bel hW)
    have HDI : Hid (∀ t, t < N → ∀ W, Bel v4 W → Calls Try.prog 11 #[.slice (some ⟨h, i, none⟩) n (c - i), .slice (some ⟨h, t, none⟩) n (c - t)] W fun e w' => e = .returned (.tuple #[.int .i64 (su sq (df Q ((Z.drop t).take n))), .int .i64 0]) ∧ Bel W w') := fun t ht W hW =>
      distance_ok (some ⟨h, i, none⟩) (some ⟨h, t, none⟩) (c - i) (c - t) n Q ((Z.drop t).take n) (by omega) (by omega) sQ ((HS.out.drop t).take n) W (by rw [← hQ]; exact zi_sub (HZ4.out.bel hW) i n hik) (zi_sub (HZ4.out.bel hW) t n (by omega))
    have HZERO : Hid ((prof Q Z n N).getD i 0 = 0) := by
      show _ = _
      rw [prof_at _ _ _ _ _ iN, hQ]
      exact (df_zero Q Q rfl).2 rfl
    have HNN := Lib.hid hN
    have HNS : Hid (((T : Int) - (n : Int) + 1 = (N : Int)) ∧ (0 < (N : Int)) ∧ ((i : Int) < (N : Int)) ∧ i < N) := ⟨hNi, N0, iNi, iN⟩
    have HGH := Lib.hid hgh
    have HIK := Lib.hid hik
    clear hQ sQ lQ hN HZ HZ4 hNi N0 iNi iN hgh hik hh hcap
    have ic : (i : Int) + (n : Int) ≤ (c : Int) := by omega
    go_wp2_with fail
    go_at_call 17
    refine (HM.out _).mono ?_
    rintro e v ⟨rfl, rfl⟩
    go_wp2_with fail
    go_at_call 21
    refine (HPR.out _ Bel.rf).mono ?_
    rintro e v5 ⟨v, rfl, hown, hb5⟩
    obtain ⟨hNi, N0, iNi, iN⟩ := HNS.out
    obtain ⟨pg, pc, rfl, hpc, _⟩ := row_form hown (by omega)
    have HP := Lib.hid (own_zi hown (prof_len _ _ _ _))
    have HB45 := Lib.hid hb5
    have c0 := (own_zi hown (prof_len _ _ _ _)).at i iN
    rw [HZERO.out] at c0
    clear hown hb5
    go_wp2
    go_loopw [67] (fun s67 wr => ∃ (t : Nat) (V : World), V = wr ∧ t ≤ N ∧ s67 = .int .i64 (t : Int) ∧ Bel v5 wr) (fun s67 _ => N - (intOf s67).toNat)
    case atStart => exact ⟨0, _, rfl, by omega, rfl, Bel.rf⟩
    case round =>
      clear c0
      obtain ⟨t, wr, hwr, ht, rfl, hb⟩ := hrel
      subst hwr
      have HB := Lib.hid hb
      rcases Nat.lt_or_ge t N with hlt | hge
      · have ti : (t : Int) < (N : Int) := by omega
        have tb : (t : Int) + (n : Int) ≤ (c : Int) := by have := HNN.out; omega
        have HDT := Lib.hid (HDI.out t hlt)
        have cp := (HP.out.bel hb).at t hlt
        rw [prof_at _ _ _ _ _ hlt] at cp
        obtain ⟨y, hy⟩ : ∃ y, su sq (df Q ((Z.drop t).take n)) = y := ⟨_, rfl⟩
        rw [hy] at HDT cp
        have HYY := Lib.hid hy
        clear hb hy
        go_wp2_with fail
        go_at_call 11
        refine (HDT.out _ (HB45.out.tr HB.out)).mono ?_
        rintro e v6 ⟨rfl, hb6⟩
        have cq := hb6.kp cp
        have kn := ne_self y
        have HB6 := Lib.hid (HB.out.tr hb6)
        clear hb6 cp
        go_wp2
        go_roundw
        case rel => exact ⟨t + 1, _, rfl, by omega, by go_num, by first | exact HB6.out | exact HB6.out.drwN _ | exact HB6.out.drw⟩
        case measure => simp [intOf]; omega
      · obtain rfl : t = N := by omega
        clear hb
        go_wp2_with (go_at_call 14; refine (AW.out _).mono ?_; rintro e w9 ⟨rfl, hb9⟩)
        go_ret
        exact ⟨rfl, (((HB4.out.tr HB45.out).tr HB.out).tr hb9).bl⟩

set_option maxRecDepth 100000 in
theorem lifted (os : Os) (started : os.Started) (H : Type) (enc : TypeId × Value → H) :
    ReturnsInHanded {} Try.checked os 7 .any (Rows.euclidProfilesSpec.pre6 enc Try.prog Try.f7 Rows.euclidProfilesRow.domain false) (Rows.euclidProfilesSpec.post enc Try.prog Try.f7 false true false false) := by
  refine returnsInHanded_of_change (C := Try.checked) own started (by kernel_rfl) Try.func7
    (ChangeSpec.witness6 (enc := enc) (C := Try.checked) false ⟨#[], #[.slice none 0 0, .int .u8 0], []⟩ 8 (by kernel_rfl) (by kernel_rfl) (by kernel_rfl) (by kernel_rfl)) ?_
  intro W base args ds gs before hval0 hW hcnd _
  have hval : ∀ (j : Nat) t v, Try.f7.params[j]? = some t → args[j]? = some v → Value.okWide Try.prog W .any base t v := hval0
  have hW' := hW
  obtain ⟨p, q, hA0, hV, rfl, hfz, hnd⟩ := hW
  have hA : DataW.TrodAll enc Try.prog W 0 (fun _ => true) true Try.f7.params.toList args.toList ds p := hA0
  rw [Try.params7] at hA hval
  obtain ⟨v0, vs0, d0, ds0, p0, q0, hargs, rfl, rfl, h0, r0⟩ := trodAll_cons hA
  obtain ⟨v1, vs1, d1, ds1, p1, q1, rfl, rfl, rfl, h1, r1⟩ := trodAll_cons r0
  obtain ⟨rfl, rfl, rfl⟩ := trodAll_nil r1
  obtain rfl : args = #[v0, v1] := by cases args; simp_all
  obtain ⟨rfl, rfl⟩ := trodVars_none hV
  obtain ⟨a0, len0, cap0, rfl⟩ := okWide_slice Try.underlying22 (hval 0 22 v0 rfl rfl)
  have k0 := h0
  have lt0 : ∀ x ∈ p0, x.block < W.heap.size := by obtain ⟨m, hm⟩ := k0; exact DataW.trod_lt m _ _ _ hm
  obtain ⟨z0, w0⟩ : ∃ zs, IsRow .i64 W a0 len0 cap0 zs := by
    obtain ⟨fuel, hf⟩ := h0
    rcases open_ints Try.underlying22 Try.underlying3 (by kernel_rfl) hf with ⟨hcs, _⟩ | ⟨x, l, c, zs, hcs, _, hl, hm, hz, _, hcell, hwz⟩
    · simp [Value.cells] at hcs
      obtain ⟨rfl, rfl, rfl⟩ := hcs
      exact ⟨[], .inl ⟨rfl, rfl, rfl, rfl⟩⟩
    · simp [Value.cells] at hcs
      obtain ⟨rfl, rfl, rfl⟩ := hcs
      exact ⟨zs, .inr ⟨_, rfl, hl, hm, by simpa using hz, hcell, hwz⟩⟩
  obtain ⟨a1, rfl, rfl, rfl, w1⟩ := open_int Try.underlying5 (hval 1 5 v1 rfl rfl) h1
  clear hA0 hval0
  refine (walk a0 len0 cap0 z0 a1 W w0 w1).mono fun e W' ⟨he, bel⟩ => ?_
  subst he
  exact ⟨_, rfl, _, _, _, [], _, [], hW', trodAll_mk1 (shut_bool Try.underlying4 _), (trodAll_cons_mk (Below.trod laidOut (by kernel_rfl) (of_decide_eq_true (by kernel_rfl)) k0 bel lt0) (trodAll_cons_mk (shut_int Try.underlying5 w1) trodAll_mk0)), rfl, bel.frame _, fun h => by cases h⟩

theorem over : Rows.euclidProfilesRow.holds Try.pinned (OpenSpec.ofChange Rows.euclidProfilesSpec) :=
  OpenClaim.holds_of_wide 7 Try.f7 rfl rfl rfl rfl rfl rfl rfl ⟨rfl, rfl, rfl, rfl, rfl⟩ rfl rfl rfl rfl rfl (by kernel_rfl) Try.func7 (by kernel_rfl)
    (of_decide_eq_true (by kernel_rfl)) (by unfold Func.isWrapper; first | (rw [if_pos (by decide +kernel)]; kernel_rfl) | (rw [if_neg (by decide +kernel)]; exact ⟨rfl, rfl⟩))
    (fun os started H enc _ => lifted os started H enc)

theorem proved : Rows.EuclidProfilesSaid := over
end Go.Proofs.Ytbmibdgdabgcbaa.euclidProfiles
