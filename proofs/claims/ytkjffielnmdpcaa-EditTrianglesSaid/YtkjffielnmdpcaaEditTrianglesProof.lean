/- That the law EditTriangles returns true for every input that can be read, and leaves its arguments as they were; no further condition. -/
import Derived.Test.YtkjffielnmdpcaaRows
import Derived.WalkKit
import Derived.ProofKit
import Derived.OpenShut
import Derived.Test.YtkjffielnmdpcaaWords
import Derived.Test.YtkjffielnmdpcaaSrcNew0
import Derived.Test.YtkjffielnmdpcaaEditAwake
import Derived.ShutString
import Derived.ChangeOld
import Derived.Below
namespace Go.Proofs.Ytkjffielnmdpcaa.editTriangles
open Go.ChangeShapes Go.WideShapes Go.ChangeAt Go.RowKit Wo
open Go.ChangeMaps (open_string shut_string)
set_option linter.unusedVariables false

theorem own : ownKnob Try.prog.godebug = none := by kernel_rfl
theorem laidOut : laidOutB Try.prog = true := by kernel_rfl

/-- WHAT THE WALK IS TOLD OF A SLICE OF INTEGERS THAT CAME IN: it is nil; or it leads to a row of 'cap' cells, the numbers 'zs' (the first 'len' are its elements, the rest its spare room), each fitting its kind. -/
def IsRow (k : IntKind) (w : World) (a : Option Addr) (len cap : Nat) (zs : List Int) : Prop :=
  (a = none ∧ len = 0 ∧ cap = 0 ∧ zs = []) ∨
  ∃ x, a = some x ∧ len ≤ cap ∧ cap ≤ maxLen ∧ zs.length = cap ∧ (∀ i, i < zs.length → w.cell? (x.add i) = some (.int k (zs.getD i 0))) ∧ ∀ n ∈ zs, (Lit.int k n).wf = true

theorem row_bel {w w' : World} {a : Option Addr} {len cap : Nat} {z : List Int} (h : IsRow .i64 w a len cap z) (hb : Go.Proofs.Ytkjffielnmdpcaa.Wo.Bel w w') : IsRow .i64 w' a len cap z := by
  rcases h with h | ⟨x, h1, h2, h3, h4, h5, h6⟩
  · exact .inl h
  · exact .inr ⟨x, h1, h2, h3, h4, fun i hi => hb.kp (h5 i hi), h6⟩
open Go.Proofs.Ytkjffielnmdpcaa.Ed Go.Proofs.Ytkjffielnmdpcaa.Wi Go.Proofs.Ytkjffielnmdpcaa.Wo Go.Proofs.Ytkjffielnmdpcaa.Sr in
set_option maxHeartbeats 16000000 in
set_option maxRecDepth 100000 in
theorem walk (a0 : Option Addr) (len0 cap0 : Nat) (z0 : List Int) (a1 : Option Addr) (len1 cap1 : Nat) (z1 : List Int) (w : World) (w0 : IsRow .i64 w a0 len0 cap0 z0) (w1 : IsRow .i64 w a1 len1 cap1 z1) :
    Calls Try.prog 11 #[.slice a0 len0 cap0, .slice a1 len1 cap1] w fun e w' => e = .returned (.bool true) ∧ Below w.heap.size w w' := by
  have AW : Hid (∀ W, Calls Try.prog 30 #[] W fun e w' => e = .returned (.bool true) ∧ Bel W w') := awake_any
  go_enter Try.func11, Try.ntmps11
  go_wp2_with fail
  go_at_call 14
  refine (new_any a0 len0 cap0 z0 w w0).mono ?_
  rintro e v1 ⟨q, rfl, hq, ho1, hb1⟩
  have HO := Lib.hid ho1
  have HBa : Hid (Bel w v1) := hb1
  clear ho1 hb1
  go_wp2_with fail
  go_at_call 25
  refine (some_any q _ HO.out).mono ?_
  rintro e v2 ⟨xa, xb, ya, yb, n, m, L, M, g, rfl, n1, n2, m1, m2, hxy, hcx, hcy, g0, g1, hox, hoy, lL, lM, sL, sM, ho2, hc2⟩
  have HBb : Hid (Bel w v2) := Bel.ch HBa.out hc2 (by have := hq;  omega)
  have zx : Zi v2 (some ⟨xa, 0, none⟩) n L := own_zi hox lL
  have zy : Zi v2 (some ⟨ya, 0, none⟩) m M := own_zi hoy lM
  have hxv := hox.lt xa rfl
  have hyv := hoy.lt ya rfl
  have HOX := Lib.hid hox
  have HOY := Lib.hid hoy
  clear ho2 hc2 hox hoy
  go_wp2_with fail
  go_at_call 14
  refine (new_any a1 len1 cap1 z1 v2 (row_bel w1 HBb.out)).mono ?_
  rintro e v3 ⟨q', rfl, hq', ho1, hb1⟩
  have HO' := Lib.hid ho1
  have hb23 := hb1
  have HBa' : Hid (Bel w v3) := HBb.out.tr hb1
  clear ho1 hb1
  go_wp2_with fail
  go_at_call 25
  refine (some_any q' _ HO'.out).mono ?_
  rintro e v4 ⟨xa', xb', ya', yb', n', m', L', M', g', rfl, n1', n2', m1', m2', hxy', hcx', hcy', g0', g1', hox', hoy', lL', lM', sL', sM', ho2, hc2⟩
  have hb24 : Bel v2 v4 := Bel.ch hb23 hc2 hq'
  have HBb' : Hid (Bel w v4) := Bel.ch HBa'.out hc2 (by have := hq'; have := HBb.out.size; omega)
  have zx' : Zi v4 (some ⟨xa', 0, none⟩) n' L' := own_zi hox' lL'
  have zy' : Zi v4 (some ⟨ya', 0, none⟩) m' M' := own_zi hoy' lM'
  have hxv' := hox'.lt xa' rfl
  have hyv' := hoy'.lt ya' rfl
  have HOX' := Lib.hid hox'
  have HOY' := Lib.hid hoy'
  clear ho2 hc2 hox' hoy'
  have D1 : Hid (∀ W, Bel v4 W → _) := fun W hW => distance_ok (some ⟨xa, 0, none⟩) (some ⟨ya, 0, none⟩) xb yb n m L M g n1 n2 m1 (by omega) g0 g1 sL sM W (zx.bel (hb24.tr hW)) (zy.bel (hb24.tr hW))
  have D2 : Hid (∀ W, Bel v4 W → _) := fun W hW => distance_ok (some ⟨ya, 0, none⟩) (some ⟨xa', 0, none⟩) yb xb' m n' M L' g m1 (by omega) n1' n2' g0 g1 sM sL' W (zy.bel (hb24.tr hW)) (zx'.bel hW)
  have D3 : Hid (∀ W, Bel v4 W → _) := fun W hW => distance_ok (some ⟨xa, 0, none⟩) (some ⟨xa', 0, none⟩) xb xb' n n' L L' g n1 n2 n1' n2' g0 g1 sL sL' W (zx.bel (hb24.tr hW)) (zx'.bel hW)
  have D4 : Hid (∀ W, Bel v4 W → _) := fun W hW => distance_ok (some ⟨ya, 0, none⟩) (some ⟨xa, 0, none⟩) yb xb m n M L g m1 (by omega) n1 n2 g0 g1 sM sL W (zy.bel (hb24.tr hW)) (zx.bel (hb24.tr hW))
  have D5 : Hid (∀ W, Bel v4 W → _) := fun W hW => distance_ok (some ⟨xa, 0, none⟩) (some ⟨xa, 0, none⟩) xb xb n n L L g n1 n2 n1 n2 g0 g1 sL sL W (zx.bel (hb24.tr hW)) (zx.bel (hb24.tr hW))
  have ha0 := et_nn L M g _ n m rfl
  have hb0 := et_nn M L' g _ m n' rfl
  have ha1 := et_hi sL sM g0 g1 _ n m rfl
  have hb1 := et_hi sM sL' g0 g1 _ m n' rfl
  have hc0 := et_nn L L' g _ n n' rfl
  have ht := et_tri L M L' g _ n m n' rfl
  rw [← et_sym L M g _ n m rfl] at D4
  rw [et_zero] at D5
  obtain ⟨a, ha⟩ : ∃ a, et L M g n m = a := ⟨_, rfl⟩
  obtain ⟨b, hb⟩ : ∃ a, et M L' g m n' = a := ⟨_, rfl⟩
  obtain ⟨c, hc⟩ : ∃ a, et L L' g n n' = a := ⟨_, rfl⟩
  rw [ha] at D1 D4 ha0 ha1 ht
  rw [hb] at D2 hb0 hb1 ht
  rw [hc] at D3 hc0 ht
  have q1 : wrap64 (a + b) = a + b := IntWalk.wrap64_in _ (by omega)
  have q2 : (a == a) = true := by simp
  have HALL := Lib.hid (And.intro ha (And.intro hb hc))
  clear ha hb hc ha1 hb1 zx zy zx' zy' sL sM sL' sM' lL lM lL' lM' w1 w0
  go_wp2_with fail
  go_at_call 26
  refine (D1.out _ Bel.rf).mono ?_
  rintro e p1 ⟨rfl, hb⟩
  have HD_p1 : Hid (Bel v4 p1) := hb
  clear hb
  go_wp2_with fail
  go_at_call 26
  refine (D2.out _ HD_p1.out).mono ?_
  rintro e p2 ⟨rfl, hb⟩
  have HD_p2 : Hid (Bel v4 p2) := HD_p1.out.tr hb
  clear hb
  go_wp2_with fail
  go_at_call 26
  refine (D3.out _ HD_p2.out).mono ?_
  rintro e p3 ⟨rfl, hb⟩
  have HD_p3 : Hid (Bel v4 p3) := HD_p2.out.tr hb
  clear hb
  go_wp2_with fail
  go_at_call 26
  refine (D4.out _ HD_p3.out).mono ?_
  rintro e p4 ⟨rfl, hb⟩
  have HD_p4 : Hid (Bel v4 p4) := HD_p3.out.tr hb
  clear hb
  go_wp2_with fail
  go_at_call 26
  refine (D5.out _ HD_p4.out).mono ?_
  rintro e p5 ⟨rfl, hb⟩
  have HD_p5 : Hid (Bel v4 p5) := HD_p4.out.tr hb
  clear hb
  go_wp2_with (go_at_call 30; refine (AW.out _).mono ?_; rintro e w9 ⟨rfl, hb9⟩)
  go_ret
  exact ⟨rfl, ((HBb'.out.tr HD_p5.out).tr hb9).bl⟩

set_option maxRecDepth 100000 in
theorem lifted (os : Os) (started : os.Started) (H : Type) (enc : TypeId × Value → H) :
    ReturnsInHanded {} Try.checked os 11 .any (Rows.editTrianglesSpec.pre6 enc Try.prog Try.f11 Rows.editTrianglesRow.domain false) (Rows.editTrianglesSpec.post enc Try.prog Try.f11 false true false false) := by
  refine returnsInHanded_of_change (C := Try.checked) own started (by kernel_rfl) Try.func11
    (ChangeSpec.witness6 (enc := enc) (C := Try.checked) false ⟨#[], #[.slice none 0 0, .slice none 0 0], []⟩ 8 (by kernel_rfl) (by kernel_rfl) (by kernel_rfl) (by kernel_rfl)) ?_
  intro W base args ds gs before hval0 hW hcnd _
  have hval : ∀ (j : Nat) t v, Try.f11.params[j]? = some t → args[j]? = some v → Value.okWide Try.prog W .any base t v := hval0
  have hW' := hW
  obtain ⟨p, q, hA0, hV, rfl, hfz, hnd⟩ := hW
  have hA : DataW.TrodAll enc Try.prog W 0 (fun _ => true) true Try.f11.params.toList args.toList ds p := hA0
  rw [Try.params11] at hA hval
  obtain ⟨v0, vs0, d0, ds0, p0, q0, hargs, rfl, rfl, h0, r0⟩ := trodAll_cons hA
  obtain ⟨v1, vs1, d1, ds1, p1, q1, rfl, rfl, rfl, h1, r1⟩ := trodAll_cons r0
  obtain ⟨rfl, rfl, rfl⟩ := trodAll_nil r1
  obtain rfl : args = #[v0, v1] := by cases args; simp_all
  obtain ⟨rfl, rfl⟩ := trodVars_none hV
  obtain ⟨a0, len0, cap0, rfl⟩ := okWide_slice Try.underlying22 (hval 0 22 v0 rfl rfl)
  have k0 := h0
  have lt0 : ∀ x ∈ p0, x.block < W.heap.size := by obtain ⟨m, hm⟩ := k0; exact DataW.trod_lt m _ _ _ hm
  obtain ⟨z0, w0⟩ : ∃ zs, IsRow .i64 W a0 len0 cap0 zs := by
    obtain ⟨fuel, hf⟩ := h0
    rcases open_ints Try.underlying22 Try.underlying3 (by kernel_rfl) hf with ⟨hcs, _⟩ | ⟨x, l, c, zs, hcs, _, hl, hm, hz, _, hcell, hwz⟩
    · simp [Value.cells] at hcs
      obtain ⟨rfl, rfl, rfl⟩ := hcs
      exact ⟨[], .inl ⟨rfl, rfl, rfl, rfl⟩⟩
    · simp [Value.cells] at hcs
      obtain ⟨rfl, rfl, rfl⟩ := hcs
      exact ⟨zs, .inr ⟨_, rfl, hl, hm, by simpa using hz, hcell, hwz⟩⟩
  obtain ⟨a1, len1, cap1, rfl⟩ := okWide_slice Try.underlying22 (hval 1 22 v1 rfl rfl)
  have k1 := h1
  have lt1 : ∀ x ∈ p1, x.block < W.heap.size := by obtain ⟨m, hm⟩ := k1; exact DataW.trod_lt m _ _ _ hm
  obtain ⟨z1, w1⟩ : ∃ zs, IsRow .i64 W a1 len1 cap1 zs := by
    obtain ⟨fuel, hf⟩ := h1
    rcases open_ints Try.underlying22 Try.underlying3 (by kernel_rfl) hf with ⟨hcs, _⟩ | ⟨x, l, c, zs, hcs, _, hl, hm, hz, _, hcell, hwz⟩
    · simp [Value.cells] at hcs
      obtain ⟨rfl, rfl, rfl⟩ := hcs
      exact ⟨[], .inl ⟨rfl, rfl, rfl, rfl⟩⟩
    · simp [Value.cells] at hcs
      obtain ⟨rfl, rfl, rfl⟩ := hcs
      exact ⟨zs, .inr ⟨_, rfl, hl, hm, by simpa using hz, hcell, hwz⟩⟩
  clear hA0 hval0
  refine (walk a0 len0 cap0 z0 a1 len1 cap1 z1 W w0 w1).mono fun e W' ⟨he, bel⟩ => ?_
  subst he
  exact ⟨_, rfl, _, _, _, [], _, [], hW', trodAll_mk1 (shut_bool Try.underlying4 _), (trodAll_cons_mk (Below.trod laidOut (by kernel_rfl) (of_decide_eq_true (by kernel_rfl)) k0 bel lt0) (trodAll_cons_mk (Below.trod laidOut (by kernel_rfl) (of_decide_eq_true (by kernel_rfl)) k1 bel lt1) trodAll_mk0)), rfl, bel.frame _, fun h => by cases h⟩

theorem over : Rows.editTrianglesRow.holds Try.pinned (OpenSpec.ofChange Rows.editTrianglesSpec) :=
  OpenClaim.holds_of_wide 11 Try.f11 rfl rfl rfl rfl rfl rfl rfl ⟨rfl, rfl, rfl, rfl, rfl⟩ rfl rfl rfl rfl rfl (by kernel_rfl) Try.func11 (by kernel_rfl)
    (of_decide_eq_true (by kernel_rfl)) (by unfold Func.isWrapper; first | (rw [if_pos (by decide +kernel)]; kernel_rfl) | (rw [if_neg (by decide +kernel)]; exact ⟨rfl, rfl⟩))
    (fun os started H enc _ => lifted os started H enc)

theorem proved : Rows.EditTrianglesSaid := over
end Go.Proofs.Ytkjffielnmdpcaa.editTriangles
