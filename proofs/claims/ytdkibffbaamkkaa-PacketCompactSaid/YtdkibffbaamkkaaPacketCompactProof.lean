/- That the law PacketCompact returns true for every input that can be read, and leaves its arguments as they were; no further condition. -/
import Derived.Test.YtdkibffbaamkkaaRows
import Derived.WalkKit
import Derived.ProofKit
import Derived.OpenShut
import Derived.Test.YtdkibffbaamkkaaWords
import Derived.Test.YtdkibffbaamkkaaSrcNew0
import Derived.Test.YtdkibffbaamkkaaPkK
import Derived.ShutString
namespace Go.Proofs.Ytdkibffbaamkkaa.packetCompact
open Go.ChangeShapes Go.WideShapes Go.ChangeAt Go.RowKit Wo
open Go.ChangeMaps (open_string shut_string)
set_option linter.unusedVariables false      -- a walk need not use every 'w<i>' (that an integer argument fits its kind)

theorem own : ownKnob Try.prog.godebug = none := by kernel_rfl

open Go.Proofs.Ytdkibffbaamkkaa.Pk Go.Proofs.Ytdkibffbaamkkaa.Rg Go.Proofs.Ytdkibffbaamkkaa.Rm Go.Proofs.Ytdkibffbaamkkaa.Wi Go.Proofs.Ytdkibffbaamkkaa.Wo Go.Proofs.Ytdkibffbaamkkaa.Sr Go.Proofs.Ytdkibffbaamkkaa.By in
set_option maxHeartbeats 8000000 in
set_option maxRecDepth 100000 in
theorem walk (a0 : Int) (a1 : Int) (a2 : Int) (a3 : Int) (w0 : (Lit.int .u32 a0).wf = true) (w1 : (Lit.int .u8 a1).wf = true) (w2 : (Lit.int .u8 a2).wf = true) (w3 : (Lit.int .u8 a3).wf = true) (w : World) :
    Calls Try.prog 5 #[.int .u32 a0, .int .u8 a1, .int .u8 a2, .int .u8 a3] w fun e w' => e = .returned (.bool true) ∧ Below w.heap.size w w' := by
  have b0 := bounds_u32 w0
  have b1 := bounds_u8 w1
  have b2 := bounds_u8 w2
  have b3 := bounds_u8 w3
  clear w0 w1 w2 w3
  obtain ⟨f0, f1⟩ := b0
  have AW : Hid (∀ W, Calls Try.prog 12 #[] W fun e w' => e = .returned (.bool true) ∧ Bel W w') := awake6_ok
  have hs1 : 0 ≤ a1.tmod 64 ∧ a1.tmod 64 ≤ 63 := by
    have h1 := Int.tmod_nonneg (a := a1) 64 b1.1
    have h2 := Int.tmod_lt_of_pos a1 (b := 64) (by decide)
    omega
  have hd1 : 0 ≤ a2.tmod 127 ∧ a2.tmod 127 ≤ 126 := by
    have h1 := Int.tmod_nonneg (a := a2) 127 b2.1
    have h2 := Int.tmod_lt_of_pos a2 (b := 127) (by decide)
    omega
  have hn1 : 0 ≤ a3.tmod 60 ∧ a3.tmod 60 ≤ 59 := by
    have h1 := Int.tmod_nonneg (a := a3) 60 b3.1
    have h2 := Int.tmod_lt_of_pos a3 (b := 60) (by decide)
    omega
  obtain ⟨s, hs⟩ : ∃ s, a1.tmod 64 = s := ⟨_, rfl⟩
  obtain ⟨q, hq⟩ : ∃ s, a2.tmod 127 = s := ⟨_, rfl⟩
  rw [hs] at hs1
  rw [hq] at hd1
  obtain ⟨N, hN⟩ := Int.eq_ofNat_of_zero_le hn1.1
  have hN2 : N ≤ 59 := by omega
  obtain ⟨d, hd⟩ : ∃ d, q - 63 = d := ⟨_, rfl⟩
  have d0 : -63 ≤ d := by omega
  have d1 : d ≤ 63 := by omega
  obtain ⟨s0, s1⟩ := hs1
  have Ni : (N : Int) ≤ 59 := by omega
  have wa0 : IntKind.i64.wrap a0 = a0 := IntWalk.i64_in _ (by omega)
  have wa1 : IntKind.i64.wrap a1 = a1 := IntWalk.i64_in _ (by omega)
  have wa2 : IntKind.i64.wrap a2 = a2 := IntWalk.i64_in _ (by omega)
  have wa3 : IntKind.i64.wrap a3 = a3 := IntWalk.i64_in _ (by omega)
  have wd : wrap64 d = d := IntWalk.wrap64_in _ (by omega)
  clear hn1 hd1
  go_enter Try.func5, Try.ntmps5
  go_wp2
  go_loopw [9, 10, 11, 12] (fun s9 s10 s11 s12 wr => ∃ (i : Nat) (t v : Int) (V : World) (u : Value), V = wr ∧ u = s9 ∧ i ≤ N ∧ s12 = .int .i64 (i : Int) ∧ s10 = .int .i64 t ∧ s11 = .int .i64 v ∧ t = a0 + (i : Int) * s ∧ v = (i : Int) * d ∧ 0 ≤ t ∧ t ≤ 4294967295 + 63 * (i : Int) ∧ -900 ≤ v ∧ v ≤ 900 ∧
    wr.ownsRow w.heap.size 40 2 s9 i (rs (lst a0 s d i)) ∧ Vrs (lst a0 s d i) ∧ Bel w wr) (fun _ _ _ s12 _ => N - (intOf s12).toNat)
  case atStart => exact ⟨0, a0, 0, _, _, rfl, rfl, by omega, rfl, rfl, rfl, by omega, by omega, by omega, by omega, by decide, by decide, World.ownsRow_nil _ _ _ _, vrs_nil, by first | exact Bel.rf | exact Bel.rf.drwN _⟩
  case round =>
    obtain ⟨i, t, v, wr, u, hwr, hu, hi, rfl, rfl, rfl, ht, hv, t0, t1, v0, v1, ho, hvr, hb⟩ := hrel
    subst hwr hu
    have HO := Lib.hid ho
    have HB := Lib.hid hb
    have HVR := Lib.hid hvr
    have HTV := Lib.hid (And.intro ht hv)
    rcases Nat.lt_or_ge i N with hlt | hge
    · have ii : (i : Int) < (N : Int) := by omega
      have hnx := lst_next a0 s d i
      rw [← ht, ← hv] at hnx
      have HNX := Lib.hid hnx
      obtain ⟨t', ht'⟩ : ∃ t', t + s = t' := ⟨_, rfl⟩
      obtain ⟨v', hv'⟩ : ∃ t', v + d = t' := ⟨_, rfl⟩
      have wt : wrap64 t' = t' := IntWalk.wrap64_in _ (by omega)
      have wv : wrap64 v' = v' := IntWalk.wrap64_in _ (by omega)
      have HT' : Hid (t' = a0 + ((i + 1 : Nat) : Int) * s ∧ v' = ((i + 1 : Nat) : Int) * d) := by
        show _ ∧ _
        rw [Int.natCast_add, Int.add_mul, Int.add_mul]
        constructor <;> omega
      have T'0 : 0 ≤ t' ∧ t' ≤ 4294967295 + 63 * ((i : Int) + 1) := by omega
      have hvr2 : Vrs (lst a0 s d (i + 1)) := by rw [hnx]; exact vrs_snoc hvr t v ⟨by omega, by omega, by omega, by omega⟩
      have HVR2 := Lib.hid hvr2
      clear ho hb hvr ht hv hnx hvr2
      go_upto_region 7 with (at_builtin; refine list_appr _ rfl (.tmp 26) (.tmp 30) rfl w.heap.size u i (lst a0 s d i) rfl (own_bel HO.out (Bel.rf.al _)) _ 1 (t, v) rfl (Bk.nq _ _ _ (by first | rfl | simp)) (by omega) (HB.out.al _).size ?_; intro v9 w9 h9 hg9 hat9
                             have HB9 : Hid (Bel w w9) := Below.grown (HB.out.al _).bl hg9 (HB.out.al _).size (fun b e => (HO.out.lt b e).1)
                             have HO9 : Hid (w9.ownsRow w.heap.size 40 2 v9 (i + 1) (rs (lst a0 s d (i + 1)))) := (by rw [HNX.out]; exact h9)
                             clear h9 hg9 hat9)
      rcases (show 900 < v' ∨ v' < -900 ∨ (-900 ≤ v' ∧ v' ≤ 900) by omega) with hc | hc | ⟨hc, hc2⟩
      · go_wp2_with fail
        obtain ⟨A, ca, hu9, hz⟩ := own_zr HO9.out (lst_len _ _ _ _)
        subst hu9
        obtain ⟨gx, hA, _, _⟩ := hz.2 (by omega)
        subst hA
        obtain ⟨p1, hp1⟩ : ∃ p, (pck (lst a0 s d 1)).length = p := ⟨_, rfl⟩
        have hpk := lst_pck a0 s d s0 s1 d0 d1 (i) (by omega)
        rw [hp1] at hpk
        obtain ⟨p, hp⟩ : ∃ p, (pck (lst a0 s d (i + 1))).length = p := ⟨_, rfl⟩
        rw [hp] at hpk
        have hpb := pck_len HVR2.out (by rw [lst_len]; omega)
        rw [hp] at hpb
        obtain ⟨ca2, hca2⟩ : ∃ c2 : Nat, i + 1 ≤ ca := by
          rcases HO9.out.2 with ⟨_, h9⟩ | ⟨g9, cap9, cur9, e9, _, _, h8, _⟩
          · omega
          · injection e9 with _ _ e9; subst e9; exact ⟨0, h8⟩
        have HE1 : Hid (∀ W, Bel w9 W → _) := fun W hW => enc_rd2 (some ⟨gx, 0, none⟩) ca (i + 1) (lst a0 s d (i + 1)) (by omega) HVR2.out W (hz.bel hW) p hp
        have HE2 : Hid (∀ W, Bel w9 W → _) := fun W hW => rencode_rd (some ⟨gx, 0, none⟩) ca 1 (lst a0 s d 1) (by decide) (by rw [← lst_one a0 s d (i)]; exact vrs_take HVR2.out 1) W (by rw [← lst_one a0 s d (i)]; exact zr_take (hz.bel hW) 1 (by omega)) p1 hp1
        have x0 : (1 : Int) ≤ (ca : Int) := by omega
        have x1 : ((i + 1 : Nat) : Int) - 1 = ((i : Nat) : Int) := by omega
        have x2 : (((i + 1 : Nat) : Int) == 0) = false := by simp; omega
        have x3 : (p1 : Int) + 2 * ((i : Nat) : Int) = (p : Int) := by omega
        have x4 : (p : Int) ≤ 50000 := by omega
        have x5 : ((i : Nat) : Int) ≤ 60 := by omega
        have x6 : (p1 : Int) ≤ 50000 := by omega
        clear hp hp1 hpk hpb hz
        go_at_call 15
        refine (HE1.out _ (by first | exact Bel.rf | exact Bel.rf.drwN _)).mono ?_
        rintro e w3 ⟨h1, c1, rfl, hc1, hm1, hr1, hb3⟩
        have HB3 : Hid (Bel w9 w3) := by first | exact hb3 | exact (Bel.rf.drwN _).tr hb3
        clear hr1 hb3 hc1 hm1
        go_wp2_with fail
        go_at_call 19
        refine (HE2.out _ (by first | exact HB3.out | exact HB3.out.drwN _)).mono ?_
        rintro e w4 ⟨h2, c2, rfl, hr2, hb4⟩
        have HB4 : Hid (Bel w w4) := HB9.out.tr (HB3.out.tr (by first | exact hb4 | exact (Bel.rf.drwN _).tr hb4))
        clear hr2 hb4
        go_wp2_with (go_at_call 12; refine (AW.out _).mono ?_; rintro e w8 ⟨rfl, hb8⟩)
        go_ret
        exact ⟨rfl, (HB4.out.tr (by first | exact hb8 | exact (Bel.rf.drwN _).tr hb8)).bl⟩
      · have hc3 : ¬ 900 < v' := by omega
        go_wp2_with fail
        obtain ⟨A, ca, hu9, hz⟩ := own_zr HO9.out (lst_len _ _ _ _)
        subst hu9
        obtain ⟨gx, hA, _, _⟩ := hz.2 (by omega)
        subst hA
        obtain ⟨p1, hp1⟩ : ∃ p, (pck (lst a0 s d 1)).length = p := ⟨_, rfl⟩
        have hpk := lst_pck a0 s d s0 s1 d0 d1 (i) (by omega)
        rw [hp1] at hpk
        obtain ⟨p, hp⟩ : ∃ p, (pck (lst a0 s d (i + 1))).length = p := ⟨_, rfl⟩
        rw [hp] at hpk
        have hpb := pck_len HVR2.out (by rw [lst_len]; omega)
        rw [hp] at hpb
        obtain ⟨ca2, hca2⟩ : ∃ c2 : Nat, i + 1 ≤ ca := by
          rcases HO9.out.2 with ⟨_, h9⟩ | ⟨g9, cap9, cur9, e9, _, _, h8, _⟩
          · omega
          · injection e9 with _ _ e9; subst e9; exact ⟨0, h8⟩
        have HE1 : Hid (∀ W, Bel w9 W → _) := fun W hW => enc_rd2 (some ⟨gx, 0, none⟩) ca (i + 1) (lst a0 s d (i + 1)) (by omega) HVR2.out W (hz.bel hW) p hp
        have HE2 : Hid (∀ W, Bel w9 W → _) := fun W hW => rencode_rd (some ⟨gx, 0, none⟩) ca 1 (lst a0 s d 1) (by decide) (by rw [← lst_one a0 s d (i)]; exact vrs_take HVR2.out 1) W (by rw [← lst_one a0 s d (i)]; exact zr_take (hz.bel hW) 1 (by omega)) p1 hp1
        have x0 : (1 : Int) ≤ (ca : Int) := by omega
        have x1 : ((i + 1 : Nat) : Int) - 1 = ((i : Nat) : Int) := by omega
        have x2 : (((i + 1 : Nat) : Int) == 0) = false := by simp; omega
        have x3 : (p1 : Int) + 2 * ((i : Nat) : Int) = (p : Int) := by omega
        have x4 : (p : Int) ≤ 50000 := by omega
        have x5 : ((i : Nat) : Int) ≤ 60 := by omega
        have x6 : (p1 : Int) ≤ 50000 := by omega
        clear hp hp1 hpk hpb hz
        go_at_call 15
        refine (HE1.out _ (by first | exact Bel.rf | exact Bel.rf.drwN _)).mono ?_
        rintro e w3 ⟨h1, c1, rfl, hc1, hm1, hr1, hb3⟩
        have HB3 : Hid (Bel w9 w3) := by first | exact hb3 | exact (Bel.rf.drwN _).tr hb3
        clear hr1 hb3 hc1 hm1
        go_wp2_with fail
        go_at_call 19
        refine (HE2.out _ (by first | exact HB3.out | exact HB3.out.drwN _)).mono ?_
        rintro e w4 ⟨h2, c2, rfl, hr2, hb4⟩
        have HB4 : Hid (Bel w w4) := HB9.out.tr (HB3.out.tr (by first | exact hb4 | exact (Bel.rf.drwN _).tr hb4))
        clear hr2 hb4
        go_wp2_with (go_at_call 12; refine (AW.out _).mono ?_; rintro e w8 ⟨rfl, hb8⟩)
        go_ret
        exact ⟨rfl, (HB4.out.tr (by first | exact hb8 | exact (Bel.rf.drwN _).tr hb8)).bl⟩
      · have hc3 : ¬ 900 < v' := by omega
        have hc4 : ¬ v' < -900 := by omega
        go_wp2
        go_roundw
        case rel => exact ⟨i + 1, t', v', _, _, rfl, rfl, by omega, by go_num, rfl, rfl, HT'.out.1, HT'.out.2, T'0.1, by have := T'0.2; omega, hc, hc2, HO9.out, HVR2.out, HB9.out⟩
        case measure => simp [intOf]; omega
    · have ii : ¬ (i : Int) < (N : Int) := by omega
      rcases Nat.eq_zero_or_pos i with hi0 | hip
      · subst hi0
        obtain ⟨A, ca, rfl, hz⟩ := own_zr ho (lst_len _ _ _ _)
        have hp0 : (pck (lst a0 s d 0)).length = 8 := rfl
        have HE0 : Hid (∀ W, Bel wr W → _) := fun W hW => enc_rd2 A ca 0 (lst a0 s d 0) (by omega) hvr W (hz.bel hW) 8 hp0
        clear ho hb hvr ht hv hz hp0
        go_wp2_with fail
        go_at_call 15
        refine (HE0.out _ (by first | exact Bel.rf | exact Bel.rf.drwN _)).mono ?_
        rintro e w3 ⟨h1, c1, rfl, hc1, hm1, hr1, hb3⟩
        have HB3 : Hid (Bel w w3) := HB.out.tr (by first | exact hb3 | exact (Bel.rf.drwN _).tr hb3)
        clear hr1 hb3 hc1 hm1
        go_wp2_with (go_at_call 12; refine (AW.out _).mono ?_; rintro e w9 ⟨rfl, hb9⟩)
        go_ret
        exact ⟨rfl, (HB3.out.tr (by first | exact hb9 | exact (Bel.rf.drwN _).tr hb9)).bl⟩
      · obtain ⟨j, rfl⟩ : ∃ j, i = j + 1 := ⟨i - 1, by omega⟩
        clear ho hb hvr ht hv
        go_wp2_with fail
        obtain ⟨A, ca, hu9, hz⟩ := own_zr HO.out (lst_len _ _ _ _)
        subst hu9
        obtain ⟨gx, hA, _, _⟩ := hz.2 (by omega)
        subst hA
        obtain ⟨p1, hp1⟩ : ∃ p, (pck (lst a0 s d 1)).length = p := ⟨_, rfl⟩
        have hpk := lst_pck a0 s d s0 s1 d0 d1 (j) (by omega)
        rw [hp1] at hpk
        obtain ⟨p, hp⟩ : ∃ p, (pck (lst a0 s d (j + 1))).length = p := ⟨_, rfl⟩
        rw [hp] at hpk
        have hpb := pck_len HVR.out (by rw [lst_len]; omega)
        rw [hp] at hpb
        obtain ⟨ca2, hca2⟩ : ∃ c2 : Nat, j + 1 ≤ ca := by
          rcases HO.out.2 with ⟨_, h9⟩ | ⟨g9, cap9, cur9, e9, _, _, h8, _⟩
          · omega
          · injection e9 with _ _ e9; subst e9; exact ⟨0, h8⟩
        have HE1 : Hid (∀ W, Bel wr W → _) := fun W hW => enc_rd2 (some ⟨gx, 0, none⟩) ca (j + 1) (lst a0 s d (j + 1)) (by omega) HVR.out W (hz.bel hW) p hp
        have HE2 : Hid (∀ W, Bel wr W → _) := fun W hW => rencode_rd (some ⟨gx, 0, none⟩) ca 1 (lst a0 s d 1) (by decide) (by rw [← lst_one a0 s d (j)]; exact vrs_take HVR.out 1) W (by rw [← lst_one a0 s d (j)]; exact zr_take (hz.bel hW) 1 (by omega)) p1 hp1
        have x0 : (1 : Int) ≤ (ca : Int) := by omega
        have x1 : ((j + 1 : Nat) : Int) - 1 = ((j : Nat) : Int) := by omega
        have x2 : (((j + 1 : Nat) : Int) == 0) = false := by simp; omega
        have x3 : (p1 : Int) + 2 * ((j : Nat) : Int) = (p : Int) := by omega
        have x4 : (p : Int) ≤ 50000 := by omega
        have x5 : ((j : Nat) : Int) ≤ 60 := by omega
        have x6 : (p1 : Int) ≤ 50000 := by omega
        clear hp hp1 hpk hpb hz
        go_at_call 15
        refine (HE1.out _ (by first | exact Bel.rf | exact Bel.rf.drwN _)).mono ?_
        rintro e w3 ⟨h1, c1, rfl, hc1, hm1, hr1, hb3⟩
        have HB3 : Hid (Bel wr w3) := by first | exact hb3 | exact (Bel.rf.drwN _).tr hb3
        clear hr1 hb3 hc1 hm1
        go_wp2_with fail
        go_at_call 19
        refine (HE2.out _ (by first | exact HB3.out | exact HB3.out.drwN _)).mono ?_
        rintro e w4 ⟨h2, c2, rfl, hr2, hb4⟩
        have HB4 : Hid (Bel w w4) := HB.out.tr (HB3.out.tr (by first | exact hb4 | exact (Bel.rf.drwN _).tr hb4))
        clear hr2 hb4
        go_wp2_with (go_at_call 12; refine (AW.out _).mono ?_; rintro e w8 ⟨rfl, hb8⟩)
        go_ret
        exact ⟨rfl, (HB4.out.tr (by first | exact hb8 | exact (Bel.rf.drwN _).tr hb8)).bl⟩

set_option maxRecDepth 100000 in
theorem lifted (os : Os) (started : os.Started) (H : Type) (enc : TypeId × Value → H) :
    ReturnsInHanded {} Try.checked os 5 .any (Rows.packetCompactSpec.pre6 enc Try.prog Try.f5 Rows.packetCompactRow.domain false) (Rows.packetCompactSpec.post enc Try.prog Try.f5 false true false false) := by
  refine returnsInHanded_of_change (C := Try.checked) own started (by kernel_rfl) Try.func5
    (ChangeSpec.witness6 (enc := enc) (C := Try.checked) false ⟨#[], #[.int .u32 0, .int .u8 0, .int .u8 0, .int .u8 0], []⟩ 8 (by kernel_rfl) (by kernel_rfl) (by kernel_rfl) (by kernel_rfl)) ?_
  intro W base args ds gs before hval0 hW hcnd _
  have hval : ∀ (j : Nat) t v, Try.f5.params[j]? = some t → args[j]? = some v → Value.okWide Try.prog W .any base t v := hval0
  have hW' := hW
  obtain ⟨p, q, hA0, hV, rfl, hfz, hnd⟩ := hW
  have hA : DataW.TrodAll enc Try.prog W 0 (fun _ => true) true Try.f5.params.toList args.toList ds p := hA0
  rw [Try.params5] at hA hval
  obtain ⟨v0, vs0, d0, ds0, p0, q0, hargs, rfl, rfl, h0, r0⟩ := trodAll_cons hA
  obtain ⟨v1, vs1, d1, ds1, p1, q1, rfl, rfl, rfl, h1, r1⟩ := trodAll_cons r0
  obtain ⟨v2, vs2, d2, ds2, p2, q2, rfl, rfl, rfl, h2, r2⟩ := trodAll_cons r1
  obtain ⟨v3, vs3, d3, ds3, p3, q3, rfl, rfl, rfl, h3, r3⟩ := trodAll_cons r2
  obtain ⟨rfl, rfl, rfl⟩ := trodAll_nil r3
  obtain rfl : args = #[v0, v1, v2, v3] := by cases args; simp_all
  obtain ⟨rfl, rfl⟩ := trodVars_none hV
  obtain ⟨a0, rfl, rfl, rfl, w0⟩ := open_int Try.underlying38 (hval 0 38 v0 rfl rfl) h0
  obtain ⟨a1, rfl, rfl, rfl, w1⟩ := open_int Try.underlying5 (hval 1 5 v1 rfl rfl) h1
  obtain ⟨a2, rfl, rfl, rfl, w2⟩ := open_int Try.underlying5 (hval 2 5 v2 rfl rfl) h2
  obtain ⟨a3, rfl, rfl, rfl, w3⟩ := open_int Try.underlying5 (hval 3 5 v3 rfl rfl) h3
  clear hA0 hval0
  simp only [List.append_nil] at hW'
  refine (walk a0 a1 a2 a3 w0 w1 w2 w3 W).mono fun e W' ⟨he, hg⟩ => ?_
  subst he
  exact ⟨_, rfl, post_below hW' (fun _ _ _ => (trodAll_cons_mk (shut_bool Try.underlying4 _) trodAll_mk0)) (fun sp _ => (trodAll_cons_mk (shut_int Try.underlying38 w0) (trodAll_cons_mk (shut_int Try.underlying5 w1) (trodAll_cons_mk (shut_int Try.underlying5 w2) (trodAll_cons_mk (shut_int Try.underlying5 w3) trodAll_mk0))))) (fun _ _ => rfl) rfl hg (ok_one (by kernel_rfl) rfl (okWide_bool_mk Try.underlying4 _))⟩

theorem over : Rows.packetCompactRow.holds Try.pinned (OpenSpec.ofChange Rows.packetCompactSpec) :=
  OpenClaim.holds_of_wide 5 Try.f5 rfl rfl rfl rfl rfl rfl rfl ⟨rfl, rfl, rfl, rfl, rfl⟩ rfl rfl rfl rfl rfl (by kernel_rfl) Try.func5 (by kernel_rfl)
    (of_decide_eq_true (by kernel_rfl)) (by unfold Func.isWrapper; first | (rw [if_pos (by decide +kernel)]; kernel_rfl) | (rw [if_neg (by decide +kernel)]; exact ⟨rfl, rfl⟩))
    (fun os started H enc _ => lifted os started H enc)

theorem proved : Rows.PacketCompactSaid :=
  over
end Go.Proofs.Ytdkibffbaamkkaa.packetCompact
