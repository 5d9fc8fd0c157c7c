/- That the law EuclidTriangles returns true for every input that can be read, and leaves its arguments as they were; no further condition. -/
import Derived.Test.YtbmibdgdabgcbaaRows
import Derived.WalkKit
import Derived.ProofKit
import Derived.OpenShut
import Derived.Test.YtbmibdgdabgcbaaWords
import Derived.Test.YtbmibdgdabgcbaaSrcNew0
import Derived.Test.YtbmibdgdabgcbaaNear
import Derived.Test.YtbmibdgdabgcbaaEucAwake
import Derived.ShutString
import Derived.ChangeOld
import Derived.Below
namespace Go.Proofs.Ytbmibdgdabgcbaa.euclidTriangles
open Go.ChangeShapes Go.WideShapes Go.ChangeAt Go.RowKit Wo
open Go.ChangeMaps (open_string shut_string)
set_option linter.unusedVariables false

theorem own : ownKnob Try.prog.godebug = none := by kernel_rfl
theorem laidOut : laidOutB Try.prog = true := by kernel_rfl

/-- WHAT THE WALK IS TOLD OF A SLICE OF INTEGERS THAT CAME IN: it is nil; or it leads to a row of 'cap' cells, the numbers 'zs' (the first 'len' are its elements, the rest its spare room), each fitting its kind. -/
def IsRow (k : IntKind) (w : World) (a : Option Addr) (len cap : Nat) (zs : List Int) : Prop :=
  (a = none ∧ len = 0 ∧ cap = 0 ∧ zs = []) ∨
  ∃ x, a = some x ∧ len ≤ cap ∧ cap ≤ maxLen ∧ zs.length = cap ∧ (∀ i, i < zs.length → w.cell? (x.add i) = some (.int k (zs.getD i 0))) ∧ ∀ n ∈ zs, (Lit.int k n).wf = true

open Go.Proofs.Ytbmibdgdabgcbaa.Eu Go.Proofs.Ytbmibdgdabgcbaa.Wi Go.Proofs.Ytbmibdgdabgcbaa.Wo Go.Proofs.Ytbmibdgdabgcbaa.Sr Go.Proofs.Ytbmibdgdabgcbaa.Ra in
set_option maxHeartbeats 16000000 in
set_option maxRecDepth 100000 in
theorem walk (a0 : Option Addr) (len0 cap0 : Nat) (z0 : List Int) (w : World) (w0 : IsRow .i64 w a0 len0 cap0 z0) :
    Calls Try.prog 3 #[.slice a0 len0 cap0] w fun e w' => e = .returned (.bool true) ∧ Below w.heap.size w w' := by
  have AW : Hid (∀ W, Calls Try.prog 14 #[] W fun e w' => e = .returned (.bool true) ∧ Bel W w') := awake_any
  go_enter Try.func3, Try.ntmps3
  go_wp2_with fail
  go_at_call 8
  refine (new_any a0 len0 cap0 z0 w w0).mono ?_
  rintro e v1 ⟨g, rfl, hg, ho1, hb1⟩
  have HO1 := Lib.hid ho1
  have HB1 := Lib.hid hb1
  clear ho1 hb1 w0
  go_wp2_with fail
  go_at_call 9
  refine (pair_any g _ HO1.out).mono ?_
  rintro e v2 ⟨xa, xb, ya, yb, n, L, M, rfl, n1, n2, hxy, hox, hoy, lL, lM, sL, sM, ho2, hc2⟩
  have HO2 := Lib.hid ho2
  have HC2 := Lib.hid hc2
  have HOX := Lib.hid hox
  have HOY := Lib.hid hoy
  have hgv := HO1.out.lt
  have hxv := (hox.lt xa rfl).1
  have hyv := (hoy.lt ya rfl)
  have ni1 : 2 ≤ (n : Int) := by omega
  have ni2 : (n : Int) ≤ 32 := by omega
  have HLL := Lib.hid (And.intro lL (And.intro lM (And.intro sL sM)))
  clear ho2 hc2 hox hoy lL lM sL sM
  go_wp2_with fail
  go_at_call 10
  refine (near_any g (some ⟨ya, 0, none⟩) yb n M (by omega) (by omega) HLL.out.2.2.2 _ HO2.out (own_zi HOY.out HLL.out.2.1) (fun ad e => by cases e; show ya ≠ g; omega)).mono ?_
  rintro e v3 ⟨vz, N, rfl, hoz, lN, sN, ho3, hc3⟩
  obtain ⟨za, zb, rfl, hzc, hzb⟩ := row_form hoz (by omega)
  have HB3 : Hid (Bel w v3) := Bel.ch (Bel.ch HB1.out HC2.out hg) hc3 hg
  have HX3 := Lib.hid (own_ch HOX.out hc3 hgv)
  have HY3 := Lib.hid (own_ch HOY.out hc3 hgv)
  have HZ3 := Lib.hid hoz
  have HLN := Lib.hid (And.intro lN sN)
  clear ho3 hc3 hoz lN sN HOX HOY
  have zx := own_zi HX3.out HLL.out.1
  have zy := own_zi HY3.out HLL.out.2.1
  have zz := own_zi HZ3.out HLN.out.1
  have D1 : Hid (∀ W, Bel v3 W → _) := fun W hW => distance_ok (some ⟨xa, 0, none⟩) (some ⟨ya, 0, none⟩) xb yb n L M n1 n2 HLL.out.2.2.1 HLL.out.2.2.2 W (zx.bel hW) (zy.bel hW)
  have D2 : Hid (∀ W, Bel v3 W → _) := fun W hW => distance_ok (some ⟨ya, 0, none⟩) (some ⟨za, 0, none⟩) yb zb n M N n1 n2 HLL.out.2.2.2 HLN.out.2 W (zy.bel hW) (zz.bel hW)
  have D3 : Hid (∀ W, Bel v3 W → _) := fun W hW => distance_ok (some ⟨xa, 0, none⟩) (some ⟨za, 0, none⟩) xb zb n L N n1 n2 HLL.out.2.2.1 HLN.out.2 W (zx.bel hW) (zz.bel hW)
  have D4 : Hid (∀ W, Bel v3 W → _) := fun W hW => distance_ok (some ⟨ya, 0, none⟩) (some ⟨xa, 0, none⟩) yb xb n M L n1 n2 HLL.out.2.2.2 HLL.out.2.2.1 W (zy.bel hW) (zx.bel hW)
  have hlm : L.length = M.length := by rw [HLL.out.1, HLL.out.2.1]
  have hmn : M.length = N.length := by rw [HLL.out.2.1, HLN.out.1]
  have T := dist_tri L M N hlm hmn
  have bnd : ∀ (X Y : List Int), Sam X → Sam Y → X.length = n → X.length = Y.length → 0 ≤ su sq (df X Y) ∧ su sq (df X Y) ≤ 128000000 := fun X Y hX hY hl hl2 => by
    have b := susq_bd (df_bd (A := 1000) (B := 1000) hX hY)
    rw [df_len hl2, hl] at b
    omega
  have b1 := bnd L M HLL.out.2.2.1 HLL.out.2.2.2 HLL.out.1 hlm
  have b2 := bnd M N HLL.out.2.2.2 HLN.out.2 HLL.out.2.1 hmn
  have b3 := bnd L N HLL.out.2.2.1 HLN.out.2 HLL.out.1 (hlm.trans hmn)
  have dz := df_zero L M hlm
  have sw := (df_swap L M).1
  rw [sw] at D4
  obtain ⟨a, ha⟩ : ∃ a, su sq (df L M) = a := ⟨_, rfl⟩
  obtain ⟨b, hb⟩ : ∃ a, su sq (df M N) = a := ⟨_, rfl⟩
  obtain ⟨c, hc⟩ : ∃ a, su sq (df L N) = a := ⟨_, rfl⟩
  rw [ha] at D1 D4 b1 dz T
  rw [hb] at D2 b2 T
  rw [hc] at D3 b3 T
  obtain ⟨a0', a1'⟩ := b1
  obtain ⟨b0', b1'⟩ := b2
  obtain ⟨c0', c1'⟩ := b3
  have TR : Hid (∀ W, Calls Try.prog 13 #[.int .i64 a, .int .i64 b, .int .i64 c] W fun e w' => e = .returned (.bool true) ∧ W = w') := triangle_ok a b c a0' a1' b0' b1' c0' c1' T
  have HABC := Lib.hid (And.intro ha (And.intro hb hc))
  have IN : Hid ((a = 0 ∧ ∀ W, Bel v3 W → Calls Try.prog 12 #[.slice (some ⟨xa, 0, none⟩) n xb, .slice (some ⟨ya, 0, none⟩) n yb] W fun e w' => e = .returned (.bool true) ∧ Bel W w') ∨ (a ≠ 0 ∧ ∀ W, Bel v3 W → Calls Try.prog 12 #[.slice (some ⟨xa, 0, none⟩) n xb, .slice (some ⟨ya, 0, none⟩) n yb] W fun e w' => e = .returned (.bool false) ∧ Bel W w')) := by
    show _ ∨ _
    rcases Classical.em (a = 0) with h0 | h0
    · refine .inl ⟨h0, fun W hW => ?_⟩
      have e := dz.1 h0
      exact ints_same _ _ xb yb n L (by omega) W (zx.bel hW) (by rw [e]; exact zy.bel hW)
    · exact .inr ⟨h0, fun W hW => ints_diff _ _ xb yb n L M (by omega) (fun e => h0 (dz.2 e)) W (zx.bel hW) (zy.bel hW)⟩
  clear T dz sw ha hb hc zx zy zz bnd HX3 HY3 HZ3
  go_wp2_with fail
  go_at_call 11
  refine (D1.out _ Bel.rf).mono ?_
  rintro e v4 ⟨rfl, hb⟩
  have HD1 : Hid (Bel v3 v4) := hb
  clear hb
  go_wp2_with fail
  go_at_call 11
  refine (D2.out _ HD1.out).mono ?_
  rintro e v5 ⟨rfl, hb⟩
  have HD2 : Hid (Bel v3 v5) := HD1.out.tr hb
  clear hb
  go_wp2_with fail
  go_at_call 11
  refine (D3.out _ HD2.out).mono ?_
  rintro e v6 ⟨rfl, hb⟩
  have HD3 : Hid (Bel v3 v6) := HD2.out.tr hb
  clear hb
  go_wp2_with fail
  go_at_call 11
  refine (D4.out _ HD3.out).mono ?_
  rintro e v7 ⟨rfl, hb⟩
  have HD4 : Hid (Bel v3 v7) := HD3.out.tr hb
  clear hb
  rcases IN.out with ⟨h0, hI⟩ | ⟨h0, hI⟩
  · have JI := Lib.hid hI
    clear hI
    have k1 : (a == 0) = true := by simpa using h0
    subst h0
    go_wp2_with fail
    go_at_call 12
    refine (JI.out _ HD4.out).mono ?_
    rintro e v8 ⟨rfl, hb⟩
    have HD5 := Lib.hid (HD4.out.tr hb)
    clear hb
    go_wp2_with fail
    go_at_call 13
    refine (TR.out _).mono ?_
    rintro e v9 ⟨rfl, rfl⟩
    go_wp2_with (go_at_call 14; refine (AW.out _).mono ?_; rintro e v9 ⟨rfl, hb9⟩)
    go_ret
    exact ⟨rfl, ((HB3.out.tr HD5.out).tr hb9).bl⟩
  · have JI := Lib.hid hI
    clear hI
    have k1 : (a == 0) = false := by simpa using h0
    go_wp2_with fail
    go_at_call 12
    refine (JI.out _ HD4.out).mono ?_
    rintro e v8 ⟨rfl, hb⟩
    have HD5 := Lib.hid (HD4.out.tr hb)
    clear hb
    go_wp2_with fail
    go_at_call 13
    refine (TR.out _).mono ?_
    rintro e v9 ⟨rfl, rfl⟩
    go_wp2_with (go_at_call 14; refine (AW.out _).mono ?_; rintro e v9 ⟨rfl, hb9⟩)
    go_ret
    exact ⟨rfl, ((HB3.out.tr HD5.out).tr hb9).bl⟩

set_option maxRecDepth 100000 in
theorem lifted (os : Os) (started : os.Started) (H : Type) (enc : TypeId × Value → H) :
    ReturnsInHanded {} Try.checked os 3 .any (Rows.euclidTrianglesSpec.pre6 enc Try.prog Try.f3 Rows.euclidTrianglesRow.domain false) (Rows.euclidTrianglesSpec.post enc Try.prog Try.f3 false true false false) := by
  refine returnsInHanded_of_change (C := Try.checked) own started (by kernel_rfl) Try.func3
    (ChangeSpec.witness6 (enc := enc) (C := Try.checked) false ⟨#[], #[.slice none 0 0], []⟩ 8 (by kernel_rfl) (by kernel_rfl) (by kernel_rfl) (by kernel_rfl)) ?_
  intro W base args ds gs before hval0 hW hcnd _
  have hval : ∀ (j : Nat) t v, Try.f3.params[j]? = some t → args[j]? = some v → Value.okWide Try.prog W .any base t v := hval0
  have hW' := hW
  obtain ⟨p, q, hA0, hV, rfl, hfz, hnd⟩ := hW
  have hA : DataW.TrodAll enc Try.prog W 0 (fun _ => true) true Try.f3.params.toList args.toList ds p := hA0
  rw [Try.params3] at hA hval
  obtain ⟨v0, vs0, d0, ds0, p0, q0, hargs, rfl, rfl, h0, r0⟩ := trodAll_cons hA
  obtain ⟨rfl, rfl, rfl⟩ := trodAll_nil r0
  obtain rfl : args = #[v0] := by cases args; simp_all
  obtain ⟨rfl, rfl⟩ := trodVars_none hV
  obtain ⟨a0, len0, cap0, rfl⟩ := okWide_slice Try.underlying22 (hval 0 22 v0 rfl rfl)
  have k0 := h0
  have lt0 : ∀ x ∈ p0, x.block < W.heap.size := by obtain ⟨m, hm⟩ := k0; exact DataW.trod_lt m _ _ _ hm
  obtain ⟨z0, w0⟩ : ∃ zs, IsRow .i64 W a0 len0 cap0 zs := by
    obtain ⟨fuel, hf⟩ := h0
    rcases open_ints Try.underlying22 Try.underlying3 (by kernel_rfl) hf with ⟨hcs, _⟩ | ⟨x, l, c, zs, hcs, _, hl, hm, hz, _, hcell, hwz⟩
    · simp [Value.cells] at hcs
      obtain ⟨rfl, rfl, rfl⟩ := hcs
      exact ⟨[], .inl ⟨rfl, rfl, rfl, rfl⟩⟩
    · simp [Value.cells] at hcs
      obtain ⟨rfl, rfl, rfl⟩ := hcs
      exact ⟨zs, .inr ⟨_, rfl, hl, hm, by simpa using hz, hcell, hwz⟩⟩
  clear hA0 hval0
  refine (walk a0 len0 cap0 z0 W w0).mono fun e W' ⟨he, bel⟩ => ?_
  subst he
  exact ⟨_, rfl, _, _, _, [], _, [], hW', trodAll_mk1 (shut_bool Try.underlying4 _), (trodAll_cons_mk (Below.trod laidOut (by kernel_rfl) (of_decide_eq_true (by kernel_rfl)) k0 bel lt0) trodAll_mk0), rfl, bel.frame _, fun h => by cases h⟩

theorem over : Rows.euclidTrianglesRow.holds Try.pinned (OpenSpec.ofChange Rows.euclidTrianglesSpec) :=
  OpenClaim.holds_of_wide 3 Try.f3 rfl rfl rfl rfl rfl rfl rfl ⟨rfl, rfl, rfl, rfl, rfl⟩ rfl rfl rfl rfl rfl (by kernel_rfl) Try.func3 (by kernel_rfl)
    (of_decide_eq_true (by kernel_rfl)) (by unfold Func.isWrapper; first | (rw [if_pos (by decide +kernel)]; kernel_rfl) | (rw [if_neg (by decide +kernel)]; exact ⟨rfl, rfl⟩))
    (fun os started H enc _ => lifted os started H enc)

theorem proved : Rows.EuclidTrianglesSaid := over
end Go.Proofs.Ytbmibdgdabgcbaa.euclidTriangles
