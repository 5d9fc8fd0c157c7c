/- That the law ChannelsPaths returns true for every input that can be read, and leaves its arguments as they were; no further condition. -/
import Derived.Test.YthmdponfigepjaaRows
import Derived.WalkKit
import Derived.ProofKit
import Derived.OpenShut
import Derived.Test.YthmdponfigepjaaWords
import Derived.Test.YthmdponfigepjaaSrcNew0
import Derived.Test.YthmdponfigepjaaChZ
import Derived.Test.YthmdponfigepjaaChEs
import Derived.Test.YthmdponfigepjaaR14k
import Derived.ShutString
import Derived.ChangeOld
import Derived.Below
namespace Go.Proofs.Ythmdponfigepjaa.channelsPaths
open Go.ChangeShapes Go.WideShapes Go.ChangeAt Go.RowKit Wo
open Go.ChangeMaps (open_string shut_string)
set_option linter.unusedVariables false

theorem own : ownKnob Try.prog.godebug = none := by kernel_rfl
theorem laidOut : laidOutB Try.prog = true := by kernel_rfl

/-- WHAT THE WALK IS TOLD OF A SLICE OF INTEGERS THAT CAME IN: it is nil; or it leads to a row of 'cap' cells, the numbers 'zs' (the first 'len' are its elements, the rest its spare room), each fitting its kind. -/
def IsRow (k : IntKind) (w : World) (a : Option Addr) (len cap : Nat) (zs : List Int) : Prop :=
  (a = none ∧ len = 0 ∧ cap = 0 ∧ zs = []) ∨
  ∃ x, a = some x ∧ len ≤ cap ∧ cap ≤ maxLen ∧ zs.length = cap ∧ (∀ i, i < zs.length → w.cell? (x.add i) = some (.int k (zs.getD i 0))) ∧ ∀ n ∈ zs, (Lit.int k n).wf = true

open Go.Proofs.Ythmdponfigepjaa.Ch Go.Proofs.Ythmdponfigepjaa.Wi Go.Proofs.Ythmdponfigepjaa.Wo Go.Proofs.Ythmdponfigepjaa.Sr in
set_option maxHeartbeats 4000000 in
set_option maxRecDepth 100000 in
theorem walk (a0 : Option Addr) (len0 cap0 : Nat) (z0 : List Int) (w : World) (w0 : IsRow .i64 w a0 len0 cap0 z0) :
    Calls Try.prog 4 #[.slice a0 len0 cap0] w fun e w' => e = .returned (.bool true) ∧ Below w.heap.size w w' := by
  have AW : Hid (∀ W, Calls Try.prog 23 #[] W fun e w' => e = .returned (.bool true) ∧ Bel W w') := awake_any
  go_enter Try.func4, Try.ntmps4
  go_wp2_with fail
  go_at_call 9
  refine (new_any a0 len0 cap0 z0 w w0).mono ?_
  rintro e v1 ⟨q0, rfl, hq, ho1, hb1⟩
  have HO := Lib.hid ho1
  have HBa : Hid (Bel w v1) := hb1
  clear ho1 hb1
  go_wp2_with fail
  go_at_call 18
  refine (bundles_any q0 _ HO.out).mono ?_
  rintro e v2 ⟨g1, g2, c1, c2, q, n, m, As, Bs, cs, ds, Ls, Ms, k, rfl, q1, q4, qc1, qc2, n1, n2, m1, m2, k0, k1, k2, k3, hX, hY, hL, hM, hc2, ⟨x0, hx0⟩, ⟨y0, hy0⟩⟩
  have HBb : Hid (Bel w v2) := Bel.ch HBa.out hc2 (by have := hq; omega)
  have SS : ∀ c, c < q → Sam (Ls c) ∧ Sam (Ms c) := fun c hc => ⟨(hX.2 c hc).2.2, (hY.2 c hc).2.2⟩
  have D1 : Hid (∀ W, Bel v2 W → _) := fun W hW => apart_ok g1 g2 q n m c1 c2 As Bs cs ds Ls Ms k q1 q4 n1 n2 m1 m2 k0 k1 k2 k3 W (hX.bel hW) (hY.bel hW)
  have D2 : Hid (∀ W, Bel v2 W → _) := fun W hW => together_ok g1 g2 q n m c1 c2 As Bs cs ds Ls Ms k q1 q4 n1 n2 m1 m2 k0 k1 k2 k3 W (hX.bel hW) (hY.bel hW)
  have D3 : Hid (∀ W, Bel v2 W → _) := fun W hW => apart_ok g1 g2 1 n m c1 c2 As Bs cs ds Ls Ms k (by decide) (by decide) n1 n2 m1 m2 k0 k1 k2 k3 W ((hX.le q1).bel hW) ((hY.le q1).bel hW)
  have D4 : Hid (∀ W, Bel v2 W → _) := fun W hW => together_ok g1 g2 1 n m c1 c2 As Bs cs ds Ls Ms k (by decide) (by decide) n1 n2 m1 m2 k0 k1 k2 k3 W ((hX.le q1).bel hW) ((hY.le q1).bel hW)
  obtain ⟨ca, za, sa⟩ := hX.2 0 q1
  obtain ⟨cb, zb, sb⟩ := hY.2 0 q1
  have D5 : Hid (∀ W, Bel v2 W → _) := fun W hW => R14.rdist x0 y0 (cs 0) (ds 0) n m k (Ls 0) (Ms 0) n1 n2 m1 m2 k0 k1 k2 k3 sa sb W (by rw [← hx0]; exact za.bel hW) (by rw [← hy0]; exact zb.bel hW)
  have hle := aps_le (Ls := Ls) (Ms := Ms) k0 (by omega) (by omega) n2 m2 k2 k3 q q4 SS
  have HE : Hid (n = m → wg (fs Ls Ms q) k n m ≤ es Ls Ms q) := fun e => by
    subst e
    exact tog_le k0 n2 (fun c hc => ⟨(SS c hc).1, (SS c hc).2, (hX.2 c hc).2.1.1, (hY.2 c hc).2.1.1⟩)
  have D6 : Hid (n = m → ∀ W, Bel v2 W → Calls Try.prog 22 #[.slice (some ⟨g1, 0, none⟩) q c1, .slice (some ⟨g2, 0, none⟩) q c2] W fun e w' => e = .returned (.tuple #[.int .i64 (es Ls Ms q), .int .i64 0]) ∧ Bel W w') := fun e W hW => by
    subst e
    exact euclid_ok g1 g2 q n c1 c2 As Bs cs ds Ls Ms q1 q4 n1 n2 (fun t ht => by
      have := es_bd (Ls := Ls) (Ms := Ms) n2 t (fun c hc => ⟨(SS c (by omega)).1, (SS c (by omega)).2, (hX.2 c (by omega)).2.1.1, (hY.2 c (by omega)).2.1.1⟩)
      omega) W (hX.bel hW) (hY.bel hW)
  rw [← hx0, ← hy0] at D5
  rw [aps_one] at D3
  rw [tog_one] at D4
  obtain ⟨a, ha⟩ : ∃ a, aps k n m Ls Ms q = a := ⟨_, rfl⟩
  obtain ⟨b, hb⟩ : ∃ a, wg (fs Ls Ms q) k n m = a := ⟨_, rfl⟩
  obtain ⟨d, hd⟩ : ∃ a, wt (Ls 0) (Ms 0) k n m = a := ⟨_, rfl⟩
  obtain ⟨s, hs⟩ : ∃ a, es Ls Ms q = a := ⟨_, rfl⟩
  rw [ha] at D1 hle
  rw [hb] at D2 hle HE
  rw [hd] at D3 D4 D5
  rw [hs] at D6 HE
  have HALL := Lib.hid (And.intro ha (And.intro hb (And.intro hd hs)))
  have KS : Hid (∀ W, Bel v2 W → W.cell? ⟨g1, 0, none⟩ = some (.slice (As 0) n (cs 0)) ∧ W.cell? ⟨g2, 0, none⟩ = some (.slice (Bs 0) m (ds 0))) := fun W h => ⟨h.kp ca, h.kp cb⟩
  have i3 : (0 : Int) < (q : Int) := by omega
  have i4 : (1 : Int) ≤ (q : Int) := by omega
  have i5 : 0 < q := q1
  have i6 : ((0 : Int) < (q : Int)) = True := eq_true i3
  have i7 : (0 < q) = True := eq_true i5
  have i8 : (1 : Int) ≤ (c1 : Int) := by omega
  have i9 : (1 : Int) ≤ (c2 : Int) := by omega
  have nab : ¬ b < a := by omega
  have ndd : (d != d) = false := by simp
  clear ha hb hd hs hx0 hy0 SS ca cb za zb sa sb hX hY hL hM hc2 w0
  go_wp2_with fail
  go_at_call 19
  refine (D1.out _ Bel.rf).mono ?_
  rintro e v3 ⟨rfl, hb3⟩
  have HB3 := Lib.hid hb3
  clear hb3
  go_wp2_with fail
  go_at_call 20
  refine (D2.out _ HB3.out).mono ?_
  rintro e v4 ⟨rfl, hb4⟩
  have HB4 := Lib.hid (HB3.out.tr hb4)
  clear hb4
  go_wp2_with fail
  go_region_held3 (fun _ => True)
    (trivial)
    ((go_at_call 19; refine (D3.out _ (by repeat (first | with_reducible exact HB4.out | with_reducible exact Bel.rf | (with_reducible refine Bel.drwN ?_ _) | (with_reducible refine Bel.drw ?_) | (refine Bel.tr ?_ (by assumption))))).mono ?_; rintro r v5 ⟨rfl, hv5⟩))
  all_goals
    have HBv5 : Hid (Bel v2 v5) := (by repeat (first | with_reducible exact HB4.out | with_reducible exact Bel.rf | (with_reducible refine Bel.drwN ?_ _) | (with_reducible refine Bel.drw ?_) | (refine Bel.tr ?_ (by assumption))))
    clear hv5
    go_wp2_with fail
    go_region_held3 (fun _ => True)
      (trivial)
      ((go_at_call 20; refine (D4.out _ (by repeat (first | with_reducible exact HBv5.out | with_reducible exact Bel.rf | (with_reducible refine Bel.drwN ?_ _) | (with_reducible refine Bel.drw ?_) | (refine Bel.tr ?_ (by assumption))))).mono ?_; rintro r v6 ⟨rfl, hv6⟩))
    all_goals
      have HBv6 : Hid (Bel v2 v6) := (by repeat (first | with_reducible exact HBv5.out | with_reducible exact Bel.rf | (with_reducible refine Bel.drwN ?_ _) | (with_reducible refine Bel.drw ?_) | (refine Bel.tr ?_ (by assumption))))
      clear hv6
      go_wp2_with fail
      go_region_held3 (fun w' => w'.cell? ⟨g1, 0, none⟩ = some (.slice (As 0) n (cs 0)) ∧ w'.cell? ⟨g2, 0, none⟩ = some (.slice (Bs 0) m (ds 0)))
        (exact KS.out _ (by repeat (first | with_reducible exact HBv6.out | with_reducible exact Bel.rf | (with_reducible refine Bel.drwN ?_ _) | (with_reducible refine Bel.drw ?_) | (refine Bel.tr ?_ (by assumption)))))
        ((go_at_call 21; refine (D5.out _ (by repeat (first | with_reducible exact HBv6.out | with_reducible exact Bel.rf | (with_reducible refine Bel.drwN ?_ _) | (with_reducible refine Bel.drw ?_) | (refine Bel.tr ?_ (by assumption))))).mono ?_; rintro r v7 ⟨rfl, hv7⟩))
      all_goals
        have HBv7 : Hid (Bel v2 v7) := (by repeat (first | with_reducible exact HBv6.out | with_reducible exact Bel.rf | (with_reducible refine Bel.drwN ?_ _) | (with_reducible refine Bel.drw ?_) | (refine Bel.tr ?_ (by assumption))))
        clear hv7
        rcases (show n = m ∨ n ≠ m by omega) with rfl | hnm
        · obtain ⟨k1, k2⟩ := KS.out _ HBv7.out
          have D6' := D6.out rfl
          have hes := HE.out rfl
          have HBW := Lib.hid (HBb.out.tr HBv7.out)
          clear D1 D2 D3 D4 D5
          go_wp2_with fail
          go_quiet (fail)
          go_wp2_with fail
          go_at_call 22
          refine (D6' _ (by repeat (first | with_reducible exact HBv7.out | (with_reducible refine Bel.drwN ?_ _) | (with_reducible refine Bel.drw ?_)))).mono ?_
          rintro e v8 ⟨rfl, h8⟩
          have HB8 : Hid (Bel w v8) := HBb.out.tr (Bel.tr (by repeat (first | with_reducible exact HBv7.out | (with_reducible refine Bel.drwN ?_ _) | (with_reducible refine Bel.drw ?_))) h8)
          clear h8
          go_wp2_with (go_at_call 23; refine (AW.out _).mono ?_; rintro e v9 ⟨rfl, h9⟩)
          go_ret
          exact ⟨rfl, (HB8.out.tr h9).bl⟩
        · have nm1 : ((n : Int) = (m : Int)) = False := eq_false (by omega)
          have nm2 : (n = m) = False := eq_false hnm
          have nm3 : ((n : Int) == (m : Int)) = false := beq_eq_false_iff_ne.2 (by omega)
          obtain ⟨k1, k2⟩ := KS.out _ HBv7.out
          have HBW := Lib.hid (HBb.out.tr HBv7.out)
          clear D1 D2 D3 D4 D5 D6
          go_wp2_with fail
          go_quiet (fail)
          go_wp2_with (go_at_call 23; refine (AW.out _).mono ?_; rintro e v9 ⟨rfl, h9⟩)
          go_ret
          exact ⟨rfl, ((HBb.out.tr (by repeat (first | with_reducible exact HBv7.out | (with_reducible refine Bel.drwN ?_ _) | (with_reducible refine Bel.drw ?_)))).tr h9).bl⟩

set_option maxRecDepth 100000 in
theorem lifted (os : Os) (started : os.Started) (H : Type) (enc : TypeId × Value → H) :
    ReturnsInHanded {} Try.checked os 4 .any (Rows.channelsPathsSpec.pre6 enc Try.prog Try.f4 Rows.channelsPathsRow.domain false) (Rows.channelsPathsSpec.post enc Try.prog Try.f4 false true false false) := by
  refine returnsInHanded_of_change (C := Try.checked) own started (by kernel_rfl) Try.func4
    (ChangeSpec.witness6 (enc := enc) (C := Try.checked) false ⟨#[], #[.slice none 0 0], []⟩ 8 (by kernel_rfl) (by kernel_rfl) (by kernel_rfl) (by kernel_rfl)) ?_
  intro W base args ds gs before hval0 hW hcnd _
  have hval : ∀ (j : Nat) t v, Try.f4.params[j]? = some t → args[j]? = some v → Value.okWide Try.prog W .any base t v := hval0
  have hW' := hW
  obtain ⟨p, q, hA0, hV, rfl, hfz, hnd⟩ := hW
  have hA : DataW.TrodAll enc Try.prog W 0 (fun _ => true) true Try.f4.params.toList args.toList ds p := hA0
  rw [Try.params4] at hA hval
  obtain ⟨v0, vs0, d0, ds0, p0, q0, hargs, rfl, rfl, h0, r0⟩ := trodAll_cons hA
  obtain ⟨rfl, rfl, rfl⟩ := trodAll_nil r0
  obtain rfl : args = #[v0] := by cases args; simp_all
  obtain ⟨rfl, rfl⟩ := trodVars_none hV
  obtain ⟨a0, len0, cap0, rfl⟩ := okWide_slice Try.underlying22 (hval 0 22 v0 rfl rfl)
  have k0 := h0
  have lt0 : ∀ x ∈ p0, x.block < W.heap.size := by obtain ⟨m, hm⟩ := k0; exact DataW.trod_lt m _ _ _ hm
  obtain ⟨z0, w0⟩ : ∃ zs, IsRow .i64 W a0 len0 cap0 zs := by
    obtain ⟨fuel, hf⟩ := h0
    rcases open_ints Try.underlying22 Try.underlying3 (by kernel_rfl) hf with ⟨hcs, _⟩ | ⟨x, l, c, zs, hcs, _, hl, hm, hz, _, hcell, hwz⟩
    · simp [Value.cells] at hcs
      obtain ⟨rfl, rfl, rfl⟩ := hcs
      exact ⟨[], .inl ⟨rfl, rfl, rfl, rfl⟩⟩
    · simp [Value.cells] at hcs
      obtain ⟨rfl, rfl, rfl⟩ := hcs
      exact ⟨zs, .inr ⟨_, rfl, hl, hm, by simpa using hz, hcell, hwz⟩⟩
  clear hA0 hval0
  refine (walk a0 len0 cap0 z0 W w0).mono fun e W' ⟨he, bel⟩ => ?_
  subst he
  exact ⟨_, rfl, _, _, _, [], _, [], hW', trodAll_mk1 (shut_bool Try.underlying4 _), (trodAll_cons_mk (Below.trod laidOut (by kernel_rfl) (of_decide_eq_true (by kernel_rfl)) k0 bel lt0) trodAll_mk0), rfl, bel.frame _, fun h => by cases h⟩

theorem over : Rows.channelsPathsRow.holds Try.pinned (OpenSpec.ofChange Rows.channelsPathsSpec) :=
  OpenClaim.holds_of_wide 4 Try.f4 rfl rfl rfl rfl rfl rfl rfl ⟨rfl, rfl, rfl, rfl, rfl⟩ rfl rfl rfl rfl rfl (by kernel_rfl) Try.func4 (by kernel_rfl)
    (of_decide_eq_true (by kernel_rfl)) (by unfold Func.isWrapper; first | (rw [if_pos (by decide +kernel)]; kernel_rfl) | (rw [if_neg (by decide +kernel)]; exact ⟨rfl, rfl⟩))
    (fun os started H enc _ => lifted os started H enc)

theorem proved : Rows.ChannelsPathsSaid := over
end Go.Proofs.Ythmdponfigepjaa.channelsPaths
