/- That the law EnvelopeCascade returns true for every input that can be read, and leaves its arguments as they were; no further condition. -/
import Derived.Test.YtiinoiookdhibaaRows
import Derived.WalkKit
import Derived.ProofKit
import Derived.OpenShut
import Derived.Test.YtiinoiookdhibaaWords
import Derived.Test.YtiinoiookdhibaaSrcNew0
import Derived.Test.YtiinoiookdhibaaEnv4
import Derived.Test.YtiinoiookdhibaaR14h
import Derived.ShutString
import Derived.ChangeOld
import Derived.Below
namespace Go.Proofs.Ytiinoiookdhibaa.envelopeCascade
open Go.ChangeShapes Go.WideShapes Go.ChangeAt Go.RowKit Wo
open Go.ChangeMaps (open_string shut_string)
set_option linter.unusedVariables false

theorem own : ownKnob Try.prog.godebug = none := by kernel_rfl
theorem laidOut : laidOutB Try.prog = true := by kernel_rfl

/-- WHAT THE WALK IS TOLD OF A SLICE OF INTEGERS THAT CAME IN: it is nil; or it leads to a row of 'cap' cells, the numbers 'zs' (the first 'len' are its elements, the rest its spare room), each fitting its kind. -/
def IsRow (k : IntKind) (w : World) (a : Option Addr) (len cap : Nat) (zs : List Int) : Prop :=
  (a = none ∧ len = 0 ∧ cap = 0 ∧ zs = []) ∨
  ∃ x, a = some x ∧ len ≤ cap ∧ cap ≤ maxLen ∧ zs.length = cap ∧ (∀ i, i < zs.length → w.cell? (x.add i) = some (.int k (zs.getD i 0))) ∧ ∀ n ∈ zs, (Lit.int k n).wf = true

section
open Go.Proofs.Ytiinoiookdhibaa.Ra Go.Proofs.Ytiinoiookdhibaa.Wo Go.Proofs.Ytiinoiookdhibaa.Pc Go.Proofs.Ytiinoiookdhibaa.Wi Go.Proofs.Ytiinoiookdhibaa.Eu
theorem cmp_le2 {t u t' u' T S C : Int} (hC : 1 ≤ C) (h : Vl t u T C) (k : Vl t' u' S C) (hle : T ≤ S) (w : Go.World) :
    Go.Calls Try.prog 21 #[.agg #[.int .i64 t, .int .i64 u], .agg #[.int .i64 t', .int .i64 u']] w fun e w' => ∃ c, e = .returned (.int .i64 c) ∧ c ≤ 0 ∧ Bel w w' := by
  refine (rcmp_ok t u t' u' h.1 k.1 w).mono ?_
  rintro e w' ⟨rfl, hb⟩
  refine ⟨_, rfl, ?_, hb⟩
  have hl := (vl_le hC h k).2 hle
  rcases Int.lt_trichotomy (t * u') (t' * u) with g | g | g
  · rw [cmpI_lt g]; decide
  · rw [cmpI_eq g]; decide
  · omega
end
open Go.Proofs.Ytiinoiookdhibaa.Ev Go.Proofs.Ytiinoiookdhibaa.Pc Go.Proofs.Ytiinoiookdhibaa.Eu Go.Proofs.Ytiinoiookdhibaa.Wi Go.Proofs.Ytiinoiookdhibaa.Wo Go.Proofs.Ytiinoiookdhibaa.Sr Go.Proofs.Ytiinoiookdhibaa.Ra in
set_option maxHeartbeats 4000000 in
set_option maxRecDepth 100000 in
theorem walk (a0 : Option Addr) (len0 cap0 : Nat) (z0 : List Int) (w : World) (w0 : IsRow .i64 w a0 len0 cap0 z0) :
    Calls Try.prog 11 #[.slice a0 len0 cap0] w fun e w' => e = .returned (.bool true) ∧ Below w.heap.size w w' := by
  have AW : Hid (∀ W, Calls Try.prog 29 #[] W fun e w' => e = .returned (.bool true) ∧ Bel W w') := Go.Proofs.Ytiinoiookdhibaa.Ev.awake_any
  go_enter Try.func11, Try.ntmps11
  go_wp2_with fail
  go_at_call 14
  refine (new_any a0 len0 cap0 z0 w w0).mono ?_
  rintro e v1 ⟨g, rfl, hg, ho1, hb1⟩
  have HO1 := Lib.hid ho1
  have HB1 := Lib.hid hb1
  clear ho1 hb1 w0
  go_wp2_with fail
  go_at_call 27
  refine (uneven_any g _ HO1.out).mono ?_
  rintro e v2 ⟨xa, xb, ya, yb, n, m, L, M, k, rfl, n1, n2, m1, m2, hne, hcx, hcy, k0, k32, kb1, kb2, hox, hoy, lL, lM, sL, sM, ho2, hc2⟩
  have HB2 : Hid (Bel w v2) := Bel.ch HB1.out hc2 hg
  have hgv := HO1.out.lt
  have HO2 := Lib.hid ho2
  have HLL := Lib.hid (And.intro lL (And.intro lM (And.intro sL sM)))
  have ni1 : 2 ≤ (n : Int) := by omega
  have ni2 : (n : Int) ≤ 32 := by omega
  have mi1 : 2 ≤ (m : Int) := by omega
  have mi2 : (m : Int) ≤ 32 := by omega
  have HZX := Lib.hid (own_zi hox lL)
  have HZY := Lib.hid (own_zi hoy lM)
  have hxl : xa < v2.heap.size := (hox.lt xa rfl).2
  have hyl : ya < v2.heap.size := (hoy.lt ya rfl).2
  have hgx : xa ≠ g := by have := (hox.lt xa rfl).1; omega
  have hgy : ya ≠ g := by have := (hoy.lt ya rfl).1; omega
  clear ho2 hc2 hox hoy lL lM sL sM
  obtain ⟨Z, hZ⟩ : ∃ Z : Nat, min 8 m = Z := ⟨_, rfl⟩
  have hQ1 : (if (m : Int) < 8 then (m : Int) else 8) = (Z : Int) := by split <;> omega
  have hQ4 : min (8 : Int) (m : Int) = (Z : Int) := by omega
  have HOK := Lib.hid (show Ok v2 g from HO2.out)
  go_wp2_with fail
  go_at_call 30
  refine (range_any g 1 (Z : Int) (by omega) (by omega) (by omega) _ HOK.out).mono ?_
  rintro e v5 ⟨x, rfl, hx0, hx1, ho3, hc3⟩
  obtain ⟨r, rfl⟩ := Int.eq_ofNat_of_zero_le (show 0 ≤ x by omega)
  have HB5 : Hid (Bel w v5) := Bel.ch HB2.out hc3 hg
  have r1 : 1 ≤ r := by omega
  have r8 : r ≤ 8 := by omega
  have rm : r ≤ m := by omega
  have ri1 : 1 ≤ (r : Int) := by omega
  have ri8 : (r : Int) ≤ 8 := by omega
  have zx := HZX.out.ch hc3 (fun ad e => by cases e; exact hgx)
  have zy := HZY.out.ch hc3 (fun ad e => by cases e; exact hgy)
  have hxv : xa < v5.heap.size := Nat.lt_of_lt_of_le hxl hc3.size
  have hyv : ya < v5.heap.size := Nat.lt_of_lt_of_le hyl hc3.size
  have G1 : Hid (∀ W, Bel v5 W → _) := fun W hW => keogh_ok xa ya xb yb n m L M k n1 n2 m1 m2 k0 k32 kb1 kb2 HLL.out.2.2.1 HLL.out.2.2.2 W (zx.bel hW) (zy.bel hW)
  have G2 : Hid (∀ W, Bel v5 W → _) := fun W hW => pieces_ok xa ya xb yb n m r L M k n1 n2 m1 m2 k0 k32 kb1 kb2 r1 r8 rm hcy HLL.out.2.2.1 HLL.out.2.2.2 W (zx.bel hW) (zy.bel hW)
  have G3 : Hid (∀ W, Bel v5 W → _) := fun W hW => improved_ok xa ya xb yb n m L M k n1 n2 m1 m2 k0 k32 kb1 kb2 HLL.out.2.2.1 HLL.out.2.2.2 W (zx.bel hW) (zy.bel hW)
  have G4 : Hid (∀ W, Bel v5 W → _) := fun W hW => R14.distance_of xa ya xb yb n m k L M n1 n2 m1 m2 k0 k32 kb1 kb2 HLL.out.2.2.1 HLL.out.2.2.2 W (zx.bel hW) (zy.bel hW) (fun W' hW' => R14.costs_ok xa ya xb yb n m L M (by omega) n2 (by omega) m2 HLL.out.2.2.1 HLL.out.2.2.2 W' (zx.bel (hW.tr hW')) (zy.bel (hW.tr hW')) (Nat.lt_of_lt_of_le hxv (hW.tr hW').size) (Nat.lt_of_lt_of_le hyv (hW.tr hW').size))
  clear hx0 hx1 ho3 hc3 hZ hQ1 hQ4 zx zy
  go_wp2_with fail
  go_at_call 33
  refine (G2.out _ Bel.rf).mono ?_
  rintro e q1 ⟨U, Lo, t, u, rfl, he, hv, hb⟩
  have HE := Lib.hid he
  have HV := Lib.hid hv
  have K1 := Lib.hid hb
  have D1 := Lib.hid (Bk.nw q1 36 #[.int .i64 t, .int .i64 u])
  clear he hv hb
  go_wp2_with fail
  go_at_call 31
  refine (G1.out _ (K1.out.al _)).mono ?_
  rintro e q2 ⟨U2, L2, rfl, he, hb⟩
  obtain ⟨rfl, rfl⟩ := he.eq HE.out
  have K2 : Hid (Bel v5 q2) := Bel.tr (K1.out.al _) hb
  have D2 := Lib.hid (D1.out.bel hb)
  clear he hb
  obtain ⟨s1, hs1⟩ : ∃ z, kv M U2 L2 = z := ⟨_, rfl⟩
  have HS1 := Lib.hid hs1
  rw [hs1]
  clear hs1
  go_wp2_with fail
  go_at_call 32
  refine (G3.out _ K2.out).mono ?_
  rintro e q3 ⟨U3, L3, A, B, rfl, he, hf, hb⟩
  obtain ⟨rfl, rfl⟩ := he.eq HE.out
  have HF := Lib.hid hf
  have K3 : Hid (Bel v5 q3) := K2.out.tr hb
  have D3 := Lib.hid (D2.out.bel hb)
  clear he hf hb
  rw [HS1.out]
  obtain ⟨s2, hs2⟩ : ∃ z, kv L A B = z := ⟨_, rfl⟩
  obtain ⟨s3, hs3⟩ : ∃ z, s1 + s2 = z := ⟨_, rfl⟩
  obtain ⟨s4, hs4⟩ : ∃ z, wt L M k n m = z := ⟨_, rfl⟩
  rw [hs2, hs3]
  have hsUL := HE.out.sam HLL.out.2.2.1
  have hk1 := kv_in HLL.out.2.2.2 hsUL.1 hsUL.2 (by rw [HLL.out.2.1]; omega)
  have hsAB := HF.out.sam (pj_sam HLL.out.2.2.2 hsUL.1 hsUL.2)
  have hk2 := kv_in HLL.out.2.2.1 hsAB.1 hsAB.2 (by rw [HLL.out.1]; omega)
  have him := improved_le HLL.out.2.2.1 HLL.out.2.2.2 (by rw [HLL.out.1]; omega) (by rw [HLL.out.2.1]; omega) (by rw [HLL.out.2.1]; exact HE.out) (by rw [HLL.out.1]; exact HF.out)
  rw [HLL.out.1, HLL.out.2.1, HS1.out, hs2, hs4] at him
  rw [HS1.out] at hk1
  rw [hs2] at hk2
  have hpl := pieces_le (n := r) HLL.out.2.1 HE.out.1 HE.out.2.1 r1
  rw [HS1.out] at hpl
  have le1 : s1 ≤ s3 := by omega
  have le2 : s3 ≤ s4 := by omega
  have ge0 : 0 ≤ s1 := hk1.1
  have HV1 : Hid (Vl s1 1 (s1 * cq m r) (cq m r)) := ⟨⟨⟨by omega, by omega, by decide, by decide⟩, gd_one s1⟩, by omega⟩
  have HCM : Hid (∀ W, _) := fun W => cmp_le2 (cq_in m r r1 rm m2).1 HV.out HV1.out hpl W
  have HVA : Hid (∀ W, _) := fun W => rvalid_ok t u HV.out.1 W
  have HS4 := Lib.hid hs4
  clear hsUL hk1 hsAB hk2 him hpl hs2 hs3 hs4
  go_wp2_with fail
  go_at_call 17
  refine (G4.out _ K3.out).mono ?_
  rintro e q4 ⟨rfl, hb⟩
  rw [HS4.out]
  have K4 : Hid (Bel v5 q4) := K3.out.tr hb
  have D4 := D3.out.bel hb
  have HD4 := Lib.hid D4
  have f1 := D4.cell 0
  have f2 := D4.cell 1
  clear hb D4
  go_wp2_with fail
  go_at_call 34
  refine (HVA.out _).mono ?_
  rintro e q5 ⟨rfl, hb⟩
  have K5 : Hid (Bel v5 q5) := K4.out.tr hb
  have D5 := HD4.out.bel hb
  have g1 := D5.cell 0
  have g2 := D5.cell 1
  clear hb D5 f1 f2
  go_wp2_with fail
  go_at_call 21
  refine (HCM.out _).mono ?_
  rintro e q6 ⟨cc, rfl, hcc, hb⟩
  have K6 : Hid (Bel v5 q6) := K5.out.tr hb
  clear hb
  go_wp2_with (go_at_call 29; refine (AW.out _).mono ?_; rintro e w9 ⟨rfl, hb9⟩)
  go_ret
  exact ⟨rfl, ((HB5.out.tr K6.out).tr hb9).bl⟩

set_option maxRecDepth 100000 in
theorem lifted (os : Os) (started : os.Started) (H : Type) (enc : TypeId × Value → H) :
    ReturnsInHanded {} Try.checked os 11 .any (Rows.envelopeCascadeSpec.pre6 enc Try.prog Try.f11 Rows.envelopeCascadeRow.domain false) (Rows.envelopeCascadeSpec.post enc Try.prog Try.f11 false true false false) := by
  refine returnsInHanded_of_change (C := Try.checked) own started (by kernel_rfl) Try.func11
    (ChangeSpec.witness6 (enc := enc) (C := Try.checked) false ⟨#[], #[.slice none 0 0], []⟩ 8 (by kernel_rfl) (by kernel_rfl) (by kernel_rfl) (by kernel_rfl)) ?_
  intro W base args ds gs before hval0 hW hcnd _
  have hval : ∀ (j : Nat) t v, Try.f11.params[j]? = some t → args[j]? = some v → Value.okWide Try.prog W .any base t v := hval0
  have hW' := hW
  obtain ⟨p, q, hA0, hV, rfl, hfz, hnd⟩ := hW
  have hA : DataW.TrodAll enc Try.prog W 0 (fun _ => true) true Try.f11.params.toList args.toList ds p := hA0
  rw [Try.params11] at hA hval
  obtain ⟨v0, vs0, d0, ds0, p0, q0, hargs, rfl, rfl, h0, r0⟩ := trodAll_cons hA
  obtain ⟨rfl, rfl, rfl⟩ := trodAll_nil r0
  obtain rfl : args = #[v0] := by cases args; simp_all
  obtain ⟨rfl, rfl⟩ := trodVars_none hV
  obtain ⟨a0, len0, cap0, rfl⟩ := okWide_slice Try.underlying22 (hval 0 22 v0 rfl rfl)
  have k0 := h0
  have lt0 : ∀ x ∈ p0, x.block < W.heap.size := by obtain ⟨m, hm⟩ := k0; exact DataW.trod_lt m _ _ _ hm
  obtain ⟨z0, w0⟩ : ∃ zs, IsRow .i64 W a0 len0 cap0 zs := by
    obtain ⟨fuel, hf⟩ := h0
    rcases open_ints Try.underlying22 Try.underlying3 (by kernel_rfl) hf with ⟨hcs, _⟩ | ⟨x, l, c, zs, hcs, _, hl, hm, hz, _, hcell, hwz⟩
    · simp [Value.cells] at hcs
      obtain ⟨rfl, rfl, rfl⟩ := hcs
      exact ⟨[], .inl ⟨rfl, rfl, rfl, rfl⟩⟩
    · simp [Value.cells] at hcs
      obtain ⟨rfl, rfl, rfl⟩ := hcs
      exact ⟨zs, .inr ⟨_, rfl, hl, hm, by simpa using hz, hcell, hwz⟩⟩
  clear hA0 hval0
  refine (walk a0 len0 cap0 z0 W w0).mono fun e W' ⟨he, bel⟩ => ?_
  subst he
  exact ⟨_, rfl, _, _, _, [], _, [], hW', trodAll_mk1 (shut_bool Try.underlying4 _), (trodAll_cons_mk (Below.trod laidOut (by kernel_rfl) (of_decide_eq_true (by kernel_rfl)) k0 bel lt0) trodAll_mk0), rfl, bel.frame _, fun h => by cases h⟩

theorem over : Rows.envelopeCascadeRow.holds Try.pinned (OpenSpec.ofChange Rows.envelopeCascadeSpec) :=
  OpenClaim.holds_of_wide 11 Try.f11 rfl rfl rfl rfl rfl rfl rfl ⟨rfl, rfl, rfl, rfl, rfl⟩ rfl rfl rfl rfl rfl (by kernel_rfl) Try.func11 (by kernel_rfl)
    (of_decide_eq_true (by kernel_rfl)) (by unfold Func.isWrapper; first | (rw [if_pos (by decide +kernel)]; kernel_rfl) | (rw [if_neg (by decide +kernel)]; exact ⟨rfl, rfl⟩))
    (fun os started H enc _ => lifted os started H enc)

theorem proved : Rows.EnvelopeCascadeSaid := over
end Go.Proofs.Ytiinoiookdhibaa.envelopeCascade
