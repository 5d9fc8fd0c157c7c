/- That the law PacketBack returns true for every input that can be read, and leaves its arguments as they were; no further condition. -/
import Derived.Test.YtdkibffbaamkkaaRows
import Derived.WalkKit
import Derived.ProofKit
import Derived.OpenShut
import Derived.Test.YtdkibffbaamkkaaWords
import Derived.Test.YtdkibffbaamkkaaSrcNew0
import Derived.Test.YtdkibffbaamkkaaPkW
import Derived.ShutString
import Derived.ChangeOld
import Derived.Below
namespace Go.Proofs.Ytdkibffbaamkkaa.packetBack
open Go.ChangeShapes Go.WideShapes Go.ChangeAt Go.RowKit Wo
open Go.ChangeMaps (open_string shut_string)
set_option linter.unusedVariables false

theorem own : ownKnob Try.prog.godebug = none := by kernel_rfl
theorem laidOut : laidOutB Try.prog = true := by kernel_rfl

/-- WHAT THE WALK IS TOLD OF A SLICE OF INTEGERS THAT CAME IN: it is nil; or it leads to a row of 'cap' cells, the numbers 'zs' (the first 'len' are its elements, the rest its spare room), each fitting its kind. -/
def IsRow (k : IntKind) (w : World) (a : Option Addr) (len cap : Nat) (zs : List Int) : Prop :=
  (a = none ∧ len = 0 ∧ cap = 0 ∧ zs = []) ∨
  ∃ x, a = some x ∧ len ≤ cap ∧ cap ≤ maxLen ∧ zs.length = cap ∧ (∀ i, i < zs.length → w.cell? (x.add i) = some (.int k (zs.getD i 0))) ∧ ∀ n ∈ zs, (Lit.int k n).wf = true

open Go.Proofs.Ytdkibffbaamkkaa.Pk Go.Proofs.Ytdkibffbaamkkaa.Rg Go.Proofs.Ytdkibffbaamkkaa.Rm Go.Proofs.Ytdkibffbaamkkaa.Wi Go.Proofs.Ytdkibffbaamkkaa.Wo Go.Proofs.Ytdkibffbaamkkaa.Sr Go.Proofs.Ytdkibffbaamkkaa.By in
set_option maxHeartbeats 8000000 in
set_option maxRecDepth 100000 in
theorem walk (a0 : Option Addr) (len0 cap0 : Nat) (z0 : List Int) (a1 : Option Addr) (len1 cap1 : Nat) (z1 : List Int) (w : World) (w0 : IsRow .i64 w a0 len0 cap0 z0) (w1 : IsRow .u8 w a1 len1 cap1 z1) :
    Calls Try.prog 3 #[.slice a0 len0 cap0, .slice a1 len1 cap1] w fun e w' => e = .returned (.bool true) ∧ Below w.heap.size w w' := by
  have AW : Hid (∀ W, Calls Try.prog 12 #[] W fun e w' => e = .returned (.bool true) ∧ Bel W w') := awake6_ok
  obtain ⟨P, hPl, hrd, hcc, hcm⟩ := rd_in w1
  clear w1
  rcases Nat.lt_or_ge 400 len1 with h4 | h4
  · have h5 : (400 : Int) < (len1 : Int) := by omega
    clear h4 w0 hrd
    go_enter Try.func3, Try.ntmps3
    go_wp2_with (go_at_call 12; refine (AW.out _).mono ?_; rintro e w9 ⟨rfl, hb9⟩)
    go_ret
    exact ⟨rfl, hb9.bl⟩
  · have h5 : ¬ (400 : Int) < (len1 : Int) := by omega
    have HRD := Lib.hid hrd
    have HDP : Hid (∀ W, Bel w W → _) := fun W hW => dec_ok a1 cap1 len1 P (by omega) hcc hcm W (hrd.bel hW)
    have HPL := Lib.hid hPl
    clear hrd hcc hcm hPl
    go_enter Try.func3, Try.ntmps3
    go_wp2_with fail
    go_at_call 13
    refine (new_any a0 len0 cap0 z0 w w0).mono ?_
    rintro e v1 ⟨g, rfl, hg, ho1, hb1⟩
    have HO1 := Lib.hid ho1
    have HB1 := Lib.hid hb1
    clear ho1 hb1 w0
    go_wp2_with fail
    go_at_call 14
    refine (readings_new g 30 (by decide) _ HO1.out).mono ?_
    rintro e v2 ⟨v, k, l, rfl, hown, hl, hk, hv, ho2, hc2⟩
    have HB2 : Hid (Bel w v2) := Bel.ch HB1.out hc2 hg
    obtain ⟨A, ca, rfl, hz⟩ := own_zr hown hl
    obtain ⟨p, hp⟩ : ∃ p, (pck l).length = p := ⟨_, rfl⟩
    have HE1 : Hid (∀ W, Bel v2 W → _) := fun W hW => enc_rd2 A ca k l (by omega) hv W (hz.bel hW) p hp
    have hpl := pck_len hv (by omega)
    rw [hp] at hpl
    have HZ := Lib.hid hz
    have HV := Lib.hid hv
    have HL := Lib.hid hl
    clear hown hz hv hl ho2 hc2 hp
    go_wp2_with fail
    go_at_call 15
    refine (HE1.out _ (by first | exact Bel.rf | exact Bel.rf.drwN _)).mono ?_
    rintro e v5 ⟨h1, c1, rfl, hc1, hm1, hr1, hb5⟩
    have HB5 : Hid (Bel v2 v5) := by first | exact hb5 | exact (Bel.rf.drwN _).tr hb5
    have HD1 : Hid (∀ W, Bel v5 W → _) := fun W hW => dec_ok (some ⟨h1, 0, none⟩) c1 p (pck l) (by omega) hc1 hm1 W (hr1.bel hW)
    clear hr1 hb5 hc1 hm1 hpl
    go_wp2_with fail
    go_at_call 16
    refine (HD1.out _ (by first | exact Bel.rf | exact Bel.rf.drwN _)).mono ?_
    rintro e v6 ⟨u, er, rfl, hb6, hu, hs, hok⟩
    have HB6 : Hid (Bel v5 v6) := by first | exact hb6 | exact (Bel.rf.drwN _).tr hb6
    obtain rfl : er = 0 := hs l HV.out (by rw [HL.out]; omega) rfl
    obtain ⟨k', l', ho, hl', hk', hv', hpp⟩ := hok rfl
    obtain rfl : l = l' := pck_inj (vrs_vp HV.out) (vrs_vp hv') (by rw [HL.out]; omega) (by omega) hpp
    obtain ⟨A', ca', rfl, hz'⟩ := own_zr ho hl'
    have HSM : Hid (∀ W, Bel v6 W → _) := fun W hW => same_ok A A' ca ca' k k' l l (by omega) (by omega) W (HZ.out.bel (HB5.out.tr (HB6.out.tr hW))) (hz'.bel hW)
    rw [decide_eq_true (rfl : l = l)] at HSM
    clear hb6 hu hs hok ho hl' hk' hv' hpp hz'
    go_wp2_with fail
    go_at_call 17
    refine (HSM.out _ (by first | exact Bel.rf | exact Bel.rf.drwN _)).mono ?_
    rintro e v7 ⟨rfl, hb7⟩
    have HB7 : Hid (Bel w v7) := HB2.out.tr (HB5.out.tr (HB6.out.tr (by first | exact hb7 | exact (Bel.rf.drwN _).tr hb7)))
    clear hb7
    go_wp2_with fail
    go_at_call 16
    refine (HDP.out _ (by first | exact HB7.out | exact HB7.out.drwN _)).mono ?_
    rintro e v8 ⟨u2, er2, rfl, hb8, hu, hs, hok⟩
    have HB8 : Hid (Bel v7 v8) := by first | exact hb8 | exact (Bel.rf.drwN _).tr hb8
    clear hb8 hs
    rcases Classical.em (er2 = 0) with her | her
    · subst her
      obtain ⟨k2, l2, ho, hl2, hk2, hv2, hpp⟩ := hok rfl
      obtain ⟨A2, ca2, rfl, hz2⟩ := own_zr ho hl2
      have HE2 : Hid (∀ W, Bel v8 W → _) := fun W hW => enc_rd2 A2 ca2 k2 l2 (by omega) hv2 W (hz2.bel hW) len1 (by rw [← hpp]; exact HPL.out)
      rw [← hpp] at HE2
      clear hu hok ho hl2 hk2 hv2 hpp hz2
      go_wp2_with fail
      go_at_call 15
      refine (HE2.out _ (by first | exact Bel.rf | exact Bel.rf.drwN _)).mono ?_
      rintro e v9 ⟨h2, c2, rfl, hc2, hm2, hr2, hb9⟩
      have HB9 : Hid (Bel v8 v9) := by first | exact hb9 | exact (Bel.rf.drwN _).tr hb9
      have s1 := str_rd (c := c2) hr2
      have s2 := str_rd (c := cap1) (HRD.out.bel (HB7.out.tr (HB8.out.tr HB9.out)))
      have s3 : ∀ n, (convert 23 9 (.slice (some ⟨h2, 0, none⟩) len1 c2)).run Try.prog (v9.drewN n) = .ok (.string (sb P)) (v9.drewN n) := fun n => str_rd (hr2.bel (Bel.rf.drwN n))
      have s4 : ∀ n, (convert 23 9 (.slice a1 len1 cap1)).run Try.prog (v9.drewN n) = .ok (.string (sb P)) (v9.drewN n) := fun n => str_rd ((HRD.out.bel (HB7.out.tr (HB8.out.tr HB9.out))).bel (Bel.rf.drwN n))
      obtain ⟨S, hS⟩ : ∃ S, sb P = S := ⟨_, rfl⟩
      rw [hS] at s1 s2
      simp only [hS] at s3 s4
      clear hr2 hb9 hc2 hm2 hS
      go_wp2_with (go_at_call 12; refine (AW.out _).mono ?_; rintro e w9 ⟨rfl, hb9⟩)
      go_ret
      exact ⟨rfl, (HB7.out.tr (HB8.out.tr (HB9.out.tr (by first | exact hb9 | exact (Bel.rf.drwN _).tr hb9)))).bl⟩
    · obtain rfl := hu her
      have hq : (er2 != 0) = true := by simpa using her
      have HE2 : Hid (∀ W, _) := fun W => enc_rd2 none 0 0 [] (by omega) vrs_nil W ⟨rfl, fun h => absurd h (by decide)⟩ _ rfl
      clear hu hok her
      go_wp2_with fail
      go_at_call 15
      refine (HE2.out _).mono ?_
      rintro e v9 ⟨h2, c2, rfl, hc2, hm2, hr2, hb9⟩
      have HB9 : Hid (Bel v8 v9) := by first | exact hb9 | exact (Bel.rf.drwN _).tr hb9
      clear hr2 hb9 hc2 hm2
      go_wp2_with (go_at_call 12; refine (AW.out _).mono ?_; rintro e w9 ⟨rfl, hb9⟩)
      go_ret
      exact ⟨rfl, (HB7.out.tr (HB8.out.tr (HB9.out.tr (by first | exact hb9 | exact (Bel.rf.drwN _).tr hb9)))).bl⟩

set_option maxRecDepth 100000 in
theorem lifted (os : Os) (started : os.Started) (H : Type) (enc : TypeId × Value → H) :
    ReturnsInHanded {} Try.checked os 3 .any (Rows.packetBackSpec.pre6 enc Try.prog Try.f3 Rows.packetBackRow.domain false) (Rows.packetBackSpec.post enc Try.prog Try.f3 false true false false) := by
  refine returnsInHanded_of_change (C := Try.checked) own started (by kernel_rfl) Try.func3
    (ChangeSpec.witness6 (enc := enc) (C := Try.checked) false ⟨#[], #[.slice none 0 0, .slice none 0 0], []⟩ 8 (by kernel_rfl) (by kernel_rfl) (by kernel_rfl) (by kernel_rfl)) ?_
  intro W base args ds gs before hval0 hW hcnd _
  have hval : ∀ (j : Nat) t v, Try.f3.params[j]? = some t → args[j]? = some v → Value.okWide Try.prog W .any base t v := hval0
  have hW' := hW
  obtain ⟨p, q, hA0, hV, rfl, hfz, hnd⟩ := hW
  have hA : DataW.TrodAll enc Try.prog W 0 (fun _ => true) true Try.f3.params.toList args.toList ds p := hA0
  rw [Try.params3] at hA hval
  obtain ⟨v0, vs0, d0, ds0, p0, q0, hargs, rfl, rfl, h0, r0⟩ := trodAll_cons hA
  obtain ⟨v1, vs1, d1, ds1, p1, q1, rfl, rfl, rfl, h1, r1⟩ := trodAll_cons r0
  obtain ⟨rfl, rfl, rfl⟩ := trodAll_nil r1
  obtain rfl : args = #[v0, v1] := by cases args; simp_all
  obtain ⟨rfl, rfl⟩ := trodVars_none hV
  obtain ⟨a0, len0, cap0, rfl⟩ := okWide_slice Try.underlying22 (hval 0 22 v0 rfl rfl)
  have k0 := h0
  have lt0 : ∀ x ∈ p0, x.block < W.heap.size := by obtain ⟨m, hm⟩ := k0; exact DataW.trod_lt m _ _ _ hm
  obtain ⟨z0, w0⟩ : ∃ zs, IsRow .i64 W a0 len0 cap0 zs := by
    obtain ⟨fuel, hf⟩ := h0
    rcases open_ints Try.underlying22 Try.underlying3 (by kernel_rfl) hf with ⟨hcs, _⟩ | ⟨x, l, c, zs, hcs, _, hl, hm, hz, _, hcell, hwz⟩
    · simp [Value.cells] at hcs
      obtain ⟨rfl, rfl, rfl⟩ := hcs
      exact ⟨[], .inl ⟨rfl, rfl, rfl, rfl⟩⟩
    · simp [Value.cells] at hcs
      obtain ⟨rfl, rfl, rfl⟩ := hcs
      exact ⟨zs, .inr ⟨_, rfl, hl, hm, by simpa using hz, hcell, hwz⟩⟩
  obtain ⟨a1, len1, cap1, rfl⟩ := okWide_slice Try.underlying23 (hval 1 23 v1 rfl rfl)
  have k1 := h1
  have lt1 : ∀ x ∈ p1, x.block < W.heap.size := by obtain ⟨m, hm⟩ := k1; exact DataW.trod_lt m _ _ _ hm
  obtain ⟨z1, w1⟩ : ∃ zs, IsRow .u8 W a1 len1 cap1 zs := by
    obtain ⟨fuel, hf⟩ := h1
    rcases open_ints Try.underlying23 Try.underlying5 (by kernel_rfl) hf with ⟨hcs, _⟩ | ⟨x, l, c, zs, hcs, _, hl, hm, hz, _, hcell, hwz⟩
    · simp [Value.cells] at hcs
      obtain ⟨rfl, rfl, rfl⟩ := hcs
      exact ⟨[], .inl ⟨rfl, rfl, rfl, rfl⟩⟩
    · simp [Value.cells] at hcs
      obtain ⟨rfl, rfl, rfl⟩ := hcs
      exact ⟨zs, .inr ⟨_, rfl, hl, hm, by simpa using hz, hcell, hwz⟩⟩
  clear hA0 hval0
  refine (walk a0 len0 cap0 z0 a1 len1 cap1 z1 W w0 w1).mono fun e W' ⟨he, bel⟩ => ?_
  subst he
  exact ⟨_, rfl, _, _, _, [], _, [], hW', trodAll_mk1 (shut_bool Try.underlying4 _), (trodAll_cons_mk (Below.trod laidOut (by kernel_rfl) (of_decide_eq_true (by kernel_rfl)) k0 bel lt0) (trodAll_cons_mk (Below.trod laidOut (by kernel_rfl) (of_decide_eq_true (by kernel_rfl)) k1 bel lt1) trodAll_mk0)), rfl, bel.frame _, fun h => by cases h⟩

theorem over : Rows.packetBackRow.holds Try.pinned (OpenSpec.ofChange Rows.packetBackSpec) :=
  OpenClaim.holds_of_wide 3 Try.f3 rfl rfl rfl rfl rfl rfl rfl ⟨rfl, rfl, rfl, rfl, rfl⟩ rfl rfl rfl rfl rfl (by kernel_rfl) Try.func3 (by kernel_rfl)
    (of_decide_eq_true (by kernel_rfl)) (by unfold Func.isWrapper; first | (rw [if_pos (by decide +kernel)]; kernel_rfl) | (rw [if_neg (by decide +kernel)]; exact ⟨rfl, rfl⟩))
    (fun os started H enc _ => lifted os started H enc)

theorem proved : Rows.PacketBackSaid := over
end Go.Proofs.Ytdkibffbaamkkaa.packetBack
