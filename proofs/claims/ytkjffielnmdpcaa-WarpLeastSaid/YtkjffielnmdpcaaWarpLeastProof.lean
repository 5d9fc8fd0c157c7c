/- That the law WarpLeast returns true for every input that can be read, and leaves its arguments as they were; no further condition. -/
import Derived.Test.YtkjffielnmdpcaaRows
import Derived.WalkKit
import Derived.ProofKit
import Derived.OpenShut
import Derived.Test.YtkjffielnmdpcaaWords
import Derived.Test.YtkjffielnmdpcaaSrcNew0
import Derived.Test.YtkjffielnmdpcaaWarp10
import Derived.Test.YtkjffielnmdpcaaWarpC
import Derived.Test.YtkjffielnmdpcaaWarpW
import Derived.ShutString
import Derived.ChangeOld
import Derived.Below
namespace Go.Proofs.Ytkjffielnmdpcaa.warpLeast
open Go.ChangeShapes Go.WideShapes Go.ChangeAt Go.RowKit Wo
open Go.ChangeMaps (open_string shut_string)
set_option linter.unusedVariables false

theorem own : ownKnob Try.prog.godebug = none := by kernel_rfl
theorem laidOut : laidOutB Try.prog = true := by kernel_rfl

/-- WHAT THE WALK IS TOLD OF A SLICE OF INTEGERS THAT CAME IN: it is nil; or it leads to a row of 'cap' cells, the numbers 'zs' (the first 'len' are its elements, the rest its spare room), each fitting its kind. -/
def IsRow (k : IntKind) (w : World) (a : Option Addr) (len cap : Nat) (zs : List Int) : Prop :=
  (a = none ∧ len = 0 ∧ cap = 0 ∧ zs = []) ∨
  ∃ x, a = some x ∧ len ≤ cap ∧ cap ≤ maxLen ∧ zs.length = cap ∧ (∀ i, i < zs.length → w.cell? (x.add i) = some (.int k (zs.getD i 0))) ∧ ∀ n ∈ zs, (Lit.int k n).wf = true

theorem row_bel {w w' : World} {a : Option Addr} {len cap : Nat} {z : List Int} (h : IsRow .i64 w a len cap z) (hb : Go.Proofs.Ytkjffielnmdpcaa.Wo.Bel w w') : IsRow .i64 w' a len cap z := by
  rcases h with h | ⟨x, h1, h2, h3, h4, h5, h6⟩
  · exact .inl h
  · exact .inr ⟨x, h1, h2, h3, h4, fun i hi => hb.kp (h5 i hi), h6⟩
open Go.Proofs.Ytkjffielnmdpcaa.Wa Go.Proofs.Ytkjffielnmdpcaa.Ed Go.Proofs.Ytkjffielnmdpcaa.Wi Go.Proofs.Ytkjffielnmdpcaa.Wo Go.Proofs.Ytkjffielnmdpcaa.Sr in
set_option maxHeartbeats 4000000 in
set_option maxRecDepth 100000 in
theorem walk (a0 : Option Addr) (len0 cap0 : Nat) (z0 : List Int) (a1 : Option Addr) (len1 cap1 : Nat) (z1 : List Int) (w : World) (w0 : IsRow .i64 w a0 len0 cap0 z0) (w1 : IsRow .i64 w a1 len1 cap1 z1) :
    Calls Try.prog 3 #[.slice a0 len0 cap0, .slice a1 len1 cap1] w fun e w' => e = .returned (.bool true) ∧ Below w.heap.size w w' := by
  have AW : Hid (∀ W, Calls Try.prog 20 #[] W fun e w' => e = .returned (.bool true) ∧ Bel W w') := awake_any
  go_enter Try.func3, Try.ntmps3
  go_wp2_with fail
  go_at_call 14
  refine (new_any a0 len0 cap0 z0 w w0).mono ?_
  rintro e v1 ⟨q, rfl, hq, ho1, hb1⟩
  have HO := Lib.hid ho1
  have HBa : Hid (Bel w v1) := hb1
  clear ho1 hb1
  go_wp2_with fail
  go_at_call 15
  refine (uneven_any q _ HO.out).mono ?_
  rintro e v2 ⟨xa, xb, ya, yb, n, m, L, M, k, rfl, n1, n2, m1, m2, hxy, hcx, hcy, k0, k1, k2, k3, hox, hoy, lL, lM, sL, sM, ho2, hc2⟩
  have HBb : Hid (Bel w v2) := Bel.ch HBa.out hc2 (by have := hq; omega)
  have zx : Zi v2 (some ⟨xa, 0, none⟩) n L := own_zi hox lL
  have zy : Zi v2 (some ⟨ya, 0, none⟩) m M := own_zi hoy lM
  have HOX := Lib.hid hox
  have HOY := Lib.hid hoy
  clear ho2 hc2
  have HR1 : Hid (IsRow .i64 v2 a1 len1 cap1 z1) := row_bel w1 HBb.out
  have D1 : Hid (∀ W, Bel v2 W → _) := fun W hW => distance_ok (some ⟨xa, 0, none⟩) (some ⟨ya, 0, none⟩) xb yb n m L M k n1 n2 m1 m2 k0 k1 k2 k3 sL sM W (zx.bel hW) (zy.bel hW)
  have DA : Hid (∀ W, Bel v2 W → _) := fun W hW => path_ok (some ⟨xa, 0, none⟩) (some ⟨ya, 0, none⟩) xb yb n m L M k n1 n2 m1 m2 k0 k1 k2 k3 sL sM W (zx.bel hW) (zy.bel hW)
  have DC : Hid (∀ (h cb kk : Nat) (l : List Pr) (K : Int), Pq L M k 0 0 l (n - 1) (m - 1) K → ∀ W, Bel v2 W → Zp W (some ⟨h, 0, none⟩) kk l → _) := fun h cb kk l K hl W hW hz => cost_ok (some ⟨xa, 0, none⟩) (some ⟨ya, 0, none⟩) xb yb n m h cb kk L M k K l n1 n2 m1 m2 k0 k1 k2 k3 sL sM hl W (zx.bel hW) (zy.bel hW) hz
  have LE : Hid (∀ S K, Pq L M k 0 0 S (n - 1) (m - 1) K → wt L M k n m ≤ K) := fun S K h => by
    have := wt_le h
    rwa [show n - 1 + 1 = n by omega, show m - 1 + 1 = m by omega] at this
  have TP : Hid (∀ {T : Nat}, tr L M k n m T = (0, 0) → (∀ u, u < T → tr L M k n m u ≠ (0, 0)) → Pq L M k 0 0 (trs L M k n m T).reverse (n - 1) (m - 1) (wt L M k n m)) := fun h h' => tr_pq sL sM k0 (by omega) (by omega) (by omega) (by omega) ⟨by omega, by omega⟩ h h'
  obtain ⟨a, ha⟩ : ∃ a, wt L M k n m = a := ⟨_, rfl⟩
  rw [ha] at D1 LE TP
  have HLET := Lib.hid ha
  clear ha zx zy w0 w1 lL lM sL sM hox hoy
  go_wp2_with fail
  go_at_call 16
  refine (D1.out _ Bel.rf).mono ?_
  rintro e p1 ⟨rfl, hb⟩
  have HD_p1 : Hid (Bel v2 p1) := hb
  clear hb
  go_wp2_with fail
  go_at_call 17
  refine (DA.out _ HD_p1.out).mono ?_
  rintro e p2 ⟨sh, sc, T, rfl, hz, hT, hne, hb⟩
  have HD_p2 := Lib.hid (HD_p1.out.tr hb)
  have HP := Lib.hid (TP.out hT hne)
  have HZ : Hid (Zp p2 (some ⟨sh, 0, none⟩) (T + 1) (trs L M k n m T).reverse) := own_zp hz (by rw [List.length_reverse, trs_len])
  clear hb hz hT hne
  go_wp2_with fail
  go_at_call 18
  refine (DC.out _ _ _ _ a HP.out _ HD_p2.out HZ.out).mono ?_
  rintro e p3 ⟨rfl, hb⟩
  have HD_p3 := Lib.hid (HD_p2.out.tr hb)
  clear hb
  go_wp2_with fail
  go_at_call 14
  refine (new_any a1 len1 cap1 z1 p3 (row_bel HR1.out HD_p3.out)).mono ?_
  rintro e p4 ⟨q', rfl, hq', ho1, hb1⟩
  have HO' := Lib.hid ho1
  have HD_p4 := Lib.hid (HD_p3.out.tr hb1)
  have hq2 : v2.heap.size ≤ q' := by have := HD_p3.out.size; omega
  clear ho1 hb1
  go_wp2_with fail
  go_at_call 19
  refine (walk_any q' n m k n1 n2 m1 m2 k0 k1 k2 k3 _ HO'.out).mono ?_
  rintro e p5 ⟨g5, c5, l5, rfl, hown, hal, ho5, hc5⟩
  obtain ⟨K, hK⟩ := hal L M
  have HD_p5 : Hid (Bel v2 p5) := Bel.ch HD_p4.out hc5 hq2
  have HZ5 : Hid (Zp p5 (some ⟨g5, 0, none⟩) l5.length l5) := own_zp hown rfl
  have HK := Lib.hid hK
  have hle : decide (a ≤ K) = true := decide_eq_true (LE.out l5 K hK)
  have hle2 : a ≤ K := LE.out l5 K hK
  clear hown hal ho5 hc5 hK
  go_wp2_with fail
  go_at_call 18
  refine (DC.out _ _ _ l5 K HK.out _ HD_p5.out HZ5.out).mono ?_
  rintro e p6 ⟨rfl, hb⟩
  have HD_p6 := Lib.hid (HD_p5.out.tr hb)
  clear hb
  have kaa : (a == a) = true := by simp
  go_wp2_with (go_at_call 20; refine (AW.out _).mono ?_; rintro e w9 ⟨rfl, hb9⟩)
  go_ret
  exact ⟨rfl, ((HBb.out.tr HD_p6.out).tr hb9).bl⟩

set_option maxRecDepth 100000 in
theorem lifted (os : Os) (started : os.Started) (H : Type) (enc : TypeId × Value → H) :
    ReturnsInHanded {} Try.checked os 3 .any (Rows.warpLeastSpec.pre6 enc Try.prog Try.f3 Rows.warpLeastRow.domain false) (Rows.warpLeastSpec.post enc Try.prog Try.f3 false true false false) := by
  refine returnsInHanded_of_change (C := Try.checked) own started (by kernel_rfl) Try.func3
    (ChangeSpec.witness6 (enc := enc) (C := Try.checked) false ⟨#[], #[.slice none 0 0, .slice none 0 0], []⟩ 8 (by kernel_rfl) (by kernel_rfl) (by kernel_rfl) (by kernel_rfl)) ?_
  intro W base args ds gs before hval0 hW hcnd _
  have hval : ∀ (j : Nat) t v, Try.f3.params[j]? = some t → args[j]? = some v → Value.okWide Try.prog W .any base t v := hval0
  have hW' := hW
  obtain ⟨p, q, hA0, hV, rfl, hfz, hnd⟩ := hW
  have hA : DataW.TrodAll enc Try.prog W 0 (fun _ => true) true Try.f3.params.toList args.toList ds p := hA0
  rw [Try.params3] at hA hval
  obtain ⟨v0, vs0, d0, ds0, p0, q0, hargs, rfl, rfl, h0, r0⟩ := trodAll_cons hA
  obtain ⟨v1, vs1, d1, ds1, p1, q1, rfl, rfl, rfl, h1, r1⟩ := trodAll_cons r0
  obtain ⟨rfl, rfl, rfl⟩ := trodAll_nil r1
  obtain rfl : args = #[v0, v1] := by cases args; simp_all
  obtain ⟨rfl, rfl⟩ := trodVars_none hV
  obtain ⟨a0, len0, cap0, rfl⟩ := okWide_slice Try.underlying22 (hval 0 22 v0 rfl rfl)
  have k0 := h0
  have lt0 : ∀ x ∈ p0, x.block < W.heap.size := by obtain ⟨m, hm⟩ := k0; exact DataW.trod_lt m _ _ _ hm
  obtain ⟨z0, w0⟩ : ∃ zs, IsRow .i64 W a0 len0 cap0 zs := by
    obtain ⟨fuel, hf⟩ := h0
    rcases open_ints Try.underlying22 Try.underlying3 (by kernel_rfl) hf with ⟨hcs, _⟩ | ⟨x, l, c, zs, hcs, _, hl, hm, hz, _, hcell, hwz⟩
    · simp [Value.cells] at hcs
      obtain ⟨rfl, rfl, rfl⟩ := hcs
      exact ⟨[], .inl ⟨rfl, rfl, rfl, rfl⟩⟩
    · simp [Value.cells] at hcs
      obtain ⟨rfl, rfl, rfl⟩ := hcs
      exact ⟨zs, .inr ⟨_, rfl, hl, hm, by simpa using hz, hcell, hwz⟩⟩
  obtain ⟨a1, len1, cap1, rfl⟩ := okWide_slice Try.underlying22 (hval 1 22 v1 rfl rfl)
  have k1 := h1
  have lt1 : ∀ x ∈ p1, x.block < W.heap.size := by obtain ⟨m, hm⟩ := k1; exact DataW.trod_lt m _ _ _ hm
  obtain ⟨z1, w1⟩ : ∃ zs, IsRow .i64 W a1 len1 cap1 zs := by
    obtain ⟨fuel, hf⟩ := h1
    rcases open_ints Try.underlying22 Try.underlying3 (by kernel_rfl) hf with ⟨hcs, _⟩ | ⟨x, l, c, zs, hcs, _, hl, hm, hz, _, hcell, hwz⟩
    · simp [Value.cells] at hcs
      obtain ⟨rfl, rfl, rfl⟩ := hcs
      exact ⟨[], .inl ⟨rfl, rfl, rfl, rfl⟩⟩
    · simp [Value.cells] at hcs
      obtain ⟨rfl, rfl, rfl⟩ := hcs
      exact ⟨zs, .inr ⟨_, rfl, hl, hm, by simpa using hz, hcell, hwz⟩⟩
  clear hA0 hval0
  refine (walk a0 len0 cap0 z0 a1 len1 cap1 z1 W w0 w1).mono fun e W' ⟨he, bel⟩ => ?_
  subst he
  exact ⟨_, rfl, _, _, _, [], _, [], hW', trodAll_mk1 (shut_bool Try.underlying4 _), (trodAll_cons_mk (Below.trod laidOut (by kernel_rfl) (of_decide_eq_true (by kernel_rfl)) k0 bel lt0) (trodAll_cons_mk (Below.trod laidOut (by kernel_rfl) (of_decide_eq_true (by kernel_rfl)) k1 bel lt1) trodAll_mk0)), rfl, bel.frame _, fun h => by cases h⟩

theorem over : Rows.warpLeastRow.holds Try.pinned (OpenSpec.ofChange Rows.warpLeastSpec) :=
  OpenClaim.holds_of_wide 3 Try.f3 rfl rfl rfl rfl rfl rfl rfl ⟨rfl, rfl, rfl, rfl, rfl⟩ rfl rfl rfl rfl rfl (by kernel_rfl) Try.func3 (by kernel_rfl)
    (of_decide_eq_true (by kernel_rfl)) (by unfold Func.isWrapper; first | (rw [if_pos (by decide +kernel)]; kernel_rfl) | (rw [if_neg (by decide +kernel)]; exact ⟨rfl, rfl⟩))
    (fun os started H enc _ => lifted os started H enc)

theorem proved : Rows.WarpLeastSaid := over
end Go.Proofs.Ytkjffielnmdpcaa.warpLeast
