/- That the law PacketOrders returns true for every input that can be read, and leaves its arguments as they were; no further condition. -/
import Derived.Test.YtdkibffbaamkkaaRows
import Derived.WalkKit
import Derived.ProofKit
import Derived.OpenShut
import Derived.Test.YtdkibffbaamkkaaWords
import Derived.Test.YtdkibffbaamkkaaSrcNew0
import Derived.Test.YtdkibffbaamkkaaPkO
import Derived.ShutString
import Derived.ChangeOld
import Derived.Below
namespace Go.Proofs.Ytdkibffbaamkkaa.packetOrders
open Go.ChangeShapes Go.WideShapes Go.ChangeAt Go.RowKit Wo
open Go.ChangeMaps (open_string shut_string)
set_option linter.unusedVariables false

theorem own : ownKnob Try.prog.godebug = none := by kernel_rfl
theorem laidOut : laidOutB Try.prog = true := by kernel_rfl

/-- WHAT THE WALK IS TOLD OF A SLICE OF INTEGERS THAT CAME IN: it is nil; or it leads to a row of 'cap' cells, the numbers 'zs' (the first 'len' are its elements, the rest its spare room), each fitting its kind. -/
def IsRow (k : IntKind) (w : World) (a : Option Addr) (len cap : Nat) (zs : List Int) : Prop :=
  (a = none ∧ len = 0 ∧ cap = 0 ∧ zs = []) ∨
  ∃ x, a = some x ∧ len ≤ cap ∧ cap ≤ maxLen ∧ zs.length = cap ∧ (∀ i, i < zs.length → w.cell? (x.add i) = some (.int k (zs.getD i 0))) ∧ ∀ n ∈ zs, (Lit.int k n).wf = true

open Go.Proofs.Ytdkibffbaamkkaa.Pk Go.Proofs.Ytdkibffbaamkkaa.Rg Go.Proofs.Ytdkibffbaamkkaa.Rm Go.Proofs.Ytdkibffbaamkkaa.Wi Go.Proofs.Ytdkibffbaamkkaa.Wo Go.Proofs.Ytdkibffbaamkkaa.Sr Go.Proofs.Ytdkibffbaamkkaa.By in
set_option maxHeartbeats 8000000 in
set_option maxRecDepth 100000 in
theorem walk (a0 : Option Addr) (len0 cap0 : Nat) (z0 : List Int) (a1 : Option Addr) (len1 cap1 : Nat) (z1 : List Int) (w : World) (w0 : IsRow .i64 w a0 len0 cap0 z0) (w1 : IsRow .i64 w a1 len1 cap1 z1) :
    Calls Try.prog 6 #[.slice a0 len0 cap0, .slice a1 len1 cap1] w fun e w' => e = .returned (.bool true) ∧ Below w.heap.size w w' := by
  have AW : Hid (∀ W, Calls Try.prog 12 #[] W fun e w' => e = .returned (.bool true) ∧ Bel W w') := awake6_ok
  have HW1 := Lib.hid w1
  clear w1
  go_enter Try.func6, Try.ntmps6
  go_wp2_with fail
  go_at_call 13
  refine (new_any a0 len0 cap0 z0 w w0).mono ?_
  rintro e v1 ⟨g, rfl, hg, ho1, hb1⟩
  have HO1 := Lib.hid ho1
  have HB1 := Lib.hid hb1
  clear ho1 hb1 w0
  go_wp2_with fail
  go_at_call 14
  refine (readings_new g 8 (by decide) _ HO1.out).mono ?_
  rintro e v2 ⟨v, k, l, rfl, hown, hl, hk, hv, ho2, hc2⟩
  have HB2 : Hid (Bel w v2) := Bel.ch HB1.out hc2 hg
  obtain ⟨A, ca, rfl, hz⟩ := own_zr hown hl
  have HZ := Lib.hid hz
  have HV := Lib.hid hv
  have HL := Lib.hid hl
  clear hown hz hv hl ho2 hc2
  go_wp2_with fail
  go_at_call 13
  refine (new_any a1 len1 cap1 z1 _ (arg_bel HW1.out (by first | exact HB2.out | exact HB2.out.drwN _))).mono ?_
  rintro e v3 ⟨g2, rfl, hg2, ho3, hb3⟩
  have HB3 : Hid (Bel v2 v3) := by first | exact hb3 | exact (Bel.rf.drwN _).tr hb3
  have HO3 := Lib.hid ho3
  have hg3 : v2.heap.size ≤ g2 := hg2
  clear ho3 hb3
  go_wp2_with fail
  go_at_call 14
  refine (readings_new g2 8 (by decide) _ HO3.out).mono ?_
  rintro e v4 ⟨v', n, m, rfl, hown, hl, hn, hv, ho4, hc4⟩
  have HB4 : Hid (Bel v2 v4) := Bel.ch HB3.out hc4 hg3
  obtain ⟨B, cb, rfl, hz⟩ := own_zr hown hl
  have HZ2 := Lib.hid hz
  have HV2 := Lib.hid hv
  have HL2 := Lib.hid hl
  clear hown hz hv hl ho4 hc4
  have HE1 : Hid (∀ W, Bel v4 W → _) := fun W hW => enc_rd A ca k l (by omega) HV.out W (HZ.out.bel (HB4.out.tr hW))
  have HE2 : Hid (∀ W, Bel v4 W → _) := fun W hW => enc_rd B cb n m (by omega) HV2.out W (HZ2.out.bel hW)
  have HSM : Hid (∀ W, Bel v4 W → _) := fun W hW => same_ok A B ca cb k n l m (by omega) (by omega) W (HZ.out.bel (HB4.out.tr hW)) (HZ2.out.bel hW)
  have HIN : Hid (sb (pck l) = sb (pck m) ↔ l = m) := ⟨fun h => pck_inj (vrs_vp HV.out) (vrs_vp HV2.out) (by rw [HL.out]; omega) (by rw [HL2.out]; omega) (sb_inj (pck_byte HV.out (by rw [HL.out]; omega)) (pck_byte HV2.out (by rw [HL2.out]; omega)) h), fun h => by rw [h]⟩
  obtain ⟨P, hP⟩ : ∃ P, pck l = P := ⟨_, rfl⟩
  obtain ⟨Q, hQ⟩ : ∃ P, pck m = P := ⟨_, rfl⟩
  obtain ⟨p, hp⟩ : ∃ p, P.length = p := ⟨_, rfl⟩
  obtain ⟨q, hq⟩ : ∃ p, Q.length = p := ⟨_, rfl⟩
  rw [hP] at HE1 HIN
  rw [hQ] at HE2 HIN
  rw [hp] at HE1
  rw [hq] at HE2
  obtain ⟨d, hd⟩ : ∃ d, decide (l = m) = d := ⟨_, rfl⟩
  rw [hd] at HSM
  have HDD : Hid (d = true ↔ sb P = sb Q) := (by show _ ↔ _; rw [HIN.out, ← hd]; exact decide_eq_true_iff)
  clear hP hQ hp hq hd HIN
  go_wp2_with fail
  go_at_call 15
  refine (HE1.out _ (by first | exact Bel.rf | exact Bel.rf.drwN _)).mono ?_
  rintro e v5 ⟨h1, c1, rfl, hc1, hr1, hb5⟩
  have HB5 : Hid (Bel v4 v5) := by first | exact hb5 | exact (Bel.rf.drwN _).tr hb5
  have HR1 := Lib.hid hr1
  clear hr1 hb5 hc1
  go_wp2_with fail
  go_at_call 15
  refine (HE2.out _ (by first | exact HB5.out | exact HB5.out.drwN _)).mono ?_
  rintro e v6 ⟨h2, c2, rfl, hc2, hr2, hb6⟩
  have HB6 : Hid (Bel v5 v6) := by first | exact hb6 | exact (Bel.rf.drwN _).tr hb6
  have HR2 := Lib.hid hr2
  clear hr2 hb6 hc2
  have HS1 : Hid (∀ W, Bel v6 W → _) := fun W hW => str_rd (c := c1) ((HR1.out.bel HB6.out).bel hW)
  have HS2 : Hid (∀ W, Bel v6 W → _) := fun W hW => str_rd (c := c2) (HR2.out.bel hW)
  obtain ⟨S1, hS1⟩ : ∃ S, sb P = S := ⟨_, rfl⟩
  obtain ⟨S2, hS2⟩ : ∃ S, sb Q = S := ⟨_, rfl⟩
  rw [hS1] at HS1 HDD
  rw [hS2] at HS2 HDD
  have s1 := HS1.out v6 Bel.rf
  have s2 := HS2.out v6 Bel.rf
  clear hS1 hS2
  rcases d with _ | _
  · have hne : ¬ S1 = S2 := fun h => by have := HDD.out.2 h; cases this
    have hn1 := ba_ne hne
    have hnb : (S1.toList == S2.toList) = false := by simpa using hn1
    go_wp2_with fail
    go_region_held3 (fun w' => (convert 23 9 (.slice (some ⟨h1, 0, none⟩) p c1)).run Try.prog w' = .ok (.string S1) w' ∧ (convert 23 9 (.slice (some ⟨h2, 0, none⟩) q c2)).run Try.prog w' = .ok (.string S2) w')
      ((refine ⟨?_, ?_⟩) <;> (first | exact HS1.out _ (by repeat (first | exact Bel.rf | (with_reducible refine Bel.drwN ?_ _) | (with_reducible refine Bel.drw ?_) | (with_reducible refine Bel.al ?_ _) | (refine Bel.tr ?_ (by assumption)))) | exact HS2.out _ (by repeat (first | exact Bel.rf | (with_reducible refine Bel.drwN ?_ _) | (with_reducible refine Bel.drw ?_) | (with_reducible refine Bel.al ?_ _) | (refine Bel.tr ?_ (by assumption))))))
      (first
        | (go_at_call 17; refine (HSM.out _ (HB5.out.tr (HB6.out.tr (by repeat (first | exact Bel.rf | (with_reducible refine Bel.drwN ?_ _) | (with_reducible refine Bel.drw ?_) | (with_reducible refine Bel.al ?_ _) | (refine Bel.tr ?_ (by assumption))))))).mono ?_; rintro e w9 ⟨rfl, hb9⟩)
        | (go_at_call 12; refine (AW.out _).mono ?_; rintro e w10 ⟨rfl, hb10⟩))
    all_goals
      go_wp2
      go_ret
      exact ⟨rfl, (HB2.out.tr (HB4.out.tr (HB5.out.tr (HB6.out.tr (Bel.tr (by repeat (first | exact Bel.rf | (with_reducible refine Bel.drwN ?_ _) | (with_reducible refine Bel.drw ?_) | (with_reducible refine Bel.al ?_ _) | (with_reducible refine Bel.tr ?_ hb9))) hb10))))).bl⟩
  · have heq : S1 = S2 := HDD.out.1 rfl
    subst heq
    go_wp2_with fail
    go_region_held3 (fun w' => (convert 23 9 (.slice (some ⟨h1, 0, none⟩) p c1)).run Try.prog w' = .ok (.string S1) w' ∧ (convert 23 9 (.slice (some ⟨h2, 0, none⟩) q c2)).run Try.prog w' = .ok (.string S1) w')
      ((refine ⟨?_, ?_⟩) <;> (first | exact HS1.out _ (by repeat (first | exact Bel.rf | (with_reducible refine Bel.drwN ?_ _) | (with_reducible refine Bel.drw ?_) | (with_reducible refine Bel.al ?_ _) | (refine Bel.tr ?_ (by assumption)))) | exact HS2.out _ (by repeat (first | exact Bel.rf | (with_reducible refine Bel.drwN ?_ _) | (with_reducible refine Bel.drw ?_) | (with_reducible refine Bel.al ?_ _) | (refine Bel.tr ?_ (by assumption))))))
      (first
        | (go_at_call 17; refine (HSM.out _ (HB5.out.tr (HB6.out.tr (by repeat (first | exact Bel.rf | (with_reducible refine Bel.drwN ?_ _) | (with_reducible refine Bel.drw ?_) | (with_reducible refine Bel.al ?_ _) | (refine Bel.tr ?_ (by assumption))))))).mono ?_; rintro e w9 ⟨rfl, hb9⟩)
        | (go_at_call 12; refine (AW.out _).mono ?_; rintro e w10 ⟨rfl, hb10⟩))
    all_goals
      go_wp2
      go_ret
      exact ⟨rfl, (HB2.out.tr (HB4.out.tr (HB5.out.tr (HB6.out.tr (Bel.tr (by repeat (first | exact Bel.rf | (with_reducible refine Bel.drwN ?_ _) | (with_reducible refine Bel.drw ?_) | (with_reducible refine Bel.al ?_ _) | (with_reducible refine Bel.tr ?_ hb9))) hb10))))).bl⟩

set_option maxRecDepth 100000 in
theorem lifted (os : Os) (started : os.Started) (H : Type) (enc : TypeId × Value → H) :
    ReturnsInHanded {} Try.checked os 6 .any (Rows.packetOrdersSpec.pre6 enc Try.prog Try.f6 Rows.packetOrdersRow.domain false) (Rows.packetOrdersSpec.post enc Try.prog Try.f6 false true false false) := by
  refine returnsInHanded_of_change (C := Try.checked) own started (by kernel_rfl) Try.func6
    (ChangeSpec.witness6 (enc := enc) (C := Try.checked) false ⟨#[], #[.slice none 0 0, .slice none 0 0], []⟩ 8 (by kernel_rfl) (by kernel_rfl) (by kernel_rfl) (by kernel_rfl)) ?_
  intro W base args ds gs before hval0 hW hcnd _
  have hval : ∀ (j : Nat) t v, Try.f6.params[j]? = some t → args[j]? = some v → Value.okWide Try.prog W .any base t v := hval0
  have hW' := hW
  obtain ⟨p, q, hA0, hV, rfl, hfz, hnd⟩ := hW
  have hA : DataW.TrodAll enc Try.prog W 0 (fun _ => true) true Try.f6.params.toList args.toList ds p := hA0
  rw [Try.params6] at hA hval
  obtain ⟨v0, vs0, d0, ds0, p0, q0, hargs, rfl, rfl, h0, r0⟩ := trodAll_cons hA
  obtain ⟨v1, vs1, d1, ds1, p1, q1, rfl, rfl, rfl, h1, r1⟩ := trodAll_cons r0
  obtain ⟨rfl, rfl, rfl⟩ := trodAll_nil r1
  obtain rfl : args = #[v0, v1] := by cases args; simp_all
  obtain ⟨rfl, rfl⟩ := trodVars_none hV
  obtain ⟨a0, len0, cap0, rfl⟩ := okWide_slice Try.underlying22 (hval 0 22 v0 rfl rfl)
  have k0 := h0
  have lt0 : ∀ x ∈ p0, x.block < W.heap.size := by obtain ⟨m, hm⟩ := k0; exact DataW.trod_lt m _ _ _ hm
  obtain ⟨z0, w0⟩ : ∃ zs, IsRow .i64 W a0 len0 cap0 zs := by
    obtain ⟨fuel, hf⟩ := h0
    rcases open_ints Try.underlying22 Try.underlying3 (by kernel_rfl) hf with ⟨hcs, _⟩ | ⟨x, l, c, zs, hcs, _, hl, hm, hz, _, hcell, hwz⟩
    · simp [Value.cells] at hcs
      obtain ⟨rfl, rfl, rfl⟩ := hcs
      exact ⟨[], .inl ⟨rfl, rfl, rfl, rfl⟩⟩
    · simp [Value.cells] at hcs
      obtain ⟨rfl, rfl, rfl⟩ := hcs
      exact ⟨zs, .inr ⟨_, rfl, hl, hm, by simpa using hz, hcell, hwz⟩⟩
  obtain ⟨a1, len1, cap1, rfl⟩ := okWide_slice Try.underlying22 (hval 1 22 v1 rfl rfl)
  have k1 := h1
  have lt1 : ∀ x ∈ p1, x.block < W.heap.size := by obtain ⟨m, hm⟩ := k1; exact DataW.trod_lt m _ _ _ hm
  obtain ⟨z1, w1⟩ : ∃ zs, IsRow .i64 W a1 len1 cap1 zs := by
    obtain ⟨fuel, hf⟩ := h1
    rcases open_ints Try.underlying22 Try.underlying3 (by kernel_rfl) hf with ⟨hcs, _⟩ | ⟨x, l, c, zs, hcs, _, hl, hm, hz, _, hcell, hwz⟩
    · simp [Value.cells] at hcs
      obtain ⟨rfl, rfl, rfl⟩ := hcs
      exact ⟨[], .inl ⟨rfl, rfl, rfl, rfl⟩⟩
    · simp [Value.cells] at hcs
      obtain ⟨rfl, rfl, rfl⟩ := hcs
      exact ⟨zs, .inr ⟨_, rfl, hl, hm, by simpa using hz, hcell, hwz⟩⟩
  clear hA0 hval0
  refine (walk a0 len0 cap0 z0 a1 len1 cap1 z1 W w0 w1).mono fun e W' ⟨he, bel⟩ => ?_
  subst he
  exact ⟨_, rfl, _, _, _, [], _, [], hW', trodAll_mk1 (shut_bool Try.underlying4 _), (trodAll_cons_mk (Below.trod laidOut (by kernel_rfl) (of_decide_eq_true (by kernel_rfl)) k0 bel lt0) (trodAll_cons_mk (Below.trod laidOut (by kernel_rfl) (of_decide_eq_true (by kernel_rfl)) k1 bel lt1) trodAll_mk0)), rfl, bel.frame _, fun h => by cases h⟩

theorem over : Rows.packetOrdersRow.holds Try.pinned (OpenSpec.ofChange Rows.packetOrdersSpec) :=
  OpenClaim.holds_of_wide 6 Try.f6 rfl rfl rfl rfl rfl rfl rfl ⟨rfl, rfl, rfl, rfl, rfl⟩ rfl rfl rfl rfl rfl (by kernel_rfl) Try.func6 (by kernel_rfl)
    (of_decide_eq_true (by kernel_rfl)) (by unfold Func.isWrapper; first | (rw [if_pos (by decide +kernel)]; kernel_rfl) | (rw [if_neg (by decide +kernel)]; exact ⟨rfl, rfl⟩))
    (fun os started H enc _ => lifted os started H enc)

theorem proved : Rows.PacketOrdersSaid := over
end Go.Proofs.Ytdkibffbaamkkaa.packetOrders
