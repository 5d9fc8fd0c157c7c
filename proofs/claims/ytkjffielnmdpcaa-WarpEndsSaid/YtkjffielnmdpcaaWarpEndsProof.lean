/- That the law WarpEnds returns true for every input that can be read, and leaves its arguments as they were; no further condition. -/
import Derived.Test.YtkjffielnmdpcaaRows
import Derived.WalkKit
import Derived.ProofKit
import Derived.OpenShut
import Derived.Test.YtkjffielnmdpcaaWords
import Derived.Test.YtkjffielnmdpcaaSrcNew0
import Derived.Test.YtkjffielnmdpcaaWarp10
import Derived.ShutString
import Derived.ChangeOld
import Derived.Below
namespace Go.Proofs.Ytkjffielnmdpcaa.warpEnds
open Go.ChangeShapes Go.WideShapes Go.ChangeAt Go.RowKit Wo
open Go.ChangeMaps (open_string shut_string)
set_option linter.unusedVariables false

theorem own : ownKnob Try.prog.godebug = none := by kernel_rfl
theorem laidOut : laidOutB Try.prog = true := by kernel_rfl

/-- WHAT THE WALK IS TOLD OF A SLICE OF INTEGERS THAT CAME IN: it is nil; or it leads to a row of 'cap' cells, the numbers 'zs' (the first 'len' are its elements, the rest its spare room), each fitting its kind. -/
def IsRow (k : IntKind) (w : World) (a : Option Addr) (len cap : Nat) (zs : List Int) : Prop :=
  (a = none ∧ len = 0 ∧ cap = 0 ∧ zs = []) ∨
  ∃ x, a = some x ∧ len ≤ cap ∧ cap ≤ maxLen ∧ zs.length = cap ∧ (∀ i, i < zs.length → w.cell? (x.add i) = some (.int k (zs.getD i 0))) ∧ ∀ n ∈ zs, (Lit.int k n).wf = true

theorem tmod_bd (a : Int) : -1000 ≤ a.tmod 1001 ∧ a.tmod 1001 ≤ 1000 := by
  rcases Int.le_total 0 a with h | h
  · rw [Int.tmod_eq_emod_of_nonneg h]; omega
  · have e : a.tmod 1001 = -((-a).tmod 1001) := by rw [Int.neg_tmod, Int.neg_neg]
    rw [e, Int.tmod_eq_emod_of_nonneg (by omega)]; omega
theorem sam_app {L : List Int} {z : Int} (h : Go.Proofs.Ytkjffielnmdpcaa.Wi.Sam L) (hz : -1000 ≤ z ∧ z ≤ 1000) : Go.Proofs.Ytkjffielnmdpcaa.Wi.Sam (L ++ [z]) := fun x hx => by
  rcases List.mem_append.1 hx with h1 | h1
  · exact h x h1
  · rw [List.mem_singleton.1 h1]; exact hz
open Go.Proofs.Ytkjffielnmdpcaa.Wa Go.Proofs.Ytkjffielnmdpcaa.Ed Go.Proofs.Ytkjffielnmdpcaa.Wi Go.Proofs.Ytkjffielnmdpcaa.Wo Go.Proofs.Ytkjffielnmdpcaa.Sr in
set_option maxHeartbeats 4000000 in
set_option maxRecDepth 100000 in
theorem walk (a0 : Option Addr) (len0 cap0 : Nat) (z0 : List Int) (a1 : Int) (w : World) (w0 : IsRow .i64 w a0 len0 cap0 z0) (w1 : (Lit.int .i16 a1).wf = true) :
    Calls Try.prog 8 #[.slice a0 len0 cap0, .int .i16 a1] w fun e w' => e = .returned (.bool true) ∧ Below w.heap.size w w' := by
  obtain ⟨b0, b1⟩ := bounds_i16 w1
  clear w1
  have AW : Hid (∀ W, Calls Try.prog 20 #[] W fun e w' => e = .returned (.bool true) ∧ Bel W w') := awake_any
  go_enter Try.func8, Try.ntmps8
  go_wp2_with fail
  go_at_call 14
  refine (new_any a0 len0 cap0 z0 w w0).mono ?_
  rintro e v1 ⟨q, rfl, hq, ho1, hb1⟩
  have HO := Lib.hid ho1
  have HBa : Hid (Bel w v1) := hb1
  clear ho1 hb1
  go_wp2_with fail
  go_at_call 15
  refine (uneven_any q _ HO.out).mono ?_
  rintro e v2 ⟨xa, xb, ya, yb, n, m, L, M, k, rfl, n1, n2, m1, m2, hxy, hcx, hcy, k0, k1, k2, k3, hox, hoy, lL, lM, sL, sM, ho2, hc2⟩
  have HBb : Hid (Bel w v2) := Bel.ch HBa.out hc2 (by have := hq; omega)
  have zx : Zi v2 (some ⟨xa, 0, none⟩) n L := own_zi hox lL
  have zy : Zi v2 (some ⟨ya, 0, none⟩) m M := own_zi hoy lM
  have HOX := Lib.hid hox
  have HOY := Lib.hid hoy
  clear ho2 hc2
  have D1 : Hid (∀ W, Bel v2 W → _) := fun W hW => distance_ok (some ⟨xa, 0, none⟩) (some ⟨ya, 0, none⟩) xb yb n m L M k n1 n2 m1 m2 k0 k1 k2 k3 sL sM W (zx.bel hW) (zy.bel hW)
  have hends : cst L M 0 0 + cst L M (n - 1) (m - 1) ≤ wt L M k n m := by
    have := wt_ends (b := k) sL sM k0 (i := n - 1) (j := m - 1) (by omega) (by omega) ⟨by omega, by omega⟩ (by omega)
    rwa [show n - 1 + 1 = n by omega, show m - 1 + 1 = m by omega] at this
  have hfin : wt L M k n m < far := by
    have := wt_small (b := k) sL sM k0 (i := n - 1) (j := m - 1) (by omega) (by omega) ⟨by omega, by omega⟩
    rwa [show n - 1 + 1 = n by omega, show m - 1 + 1 = m by omega] at this
  have x0 := zx.at 0 (by omega)
  have x1 := zx.at (n - 1) (by omega)
  have y0 := zy.at 0 (by omega)
  have y1 := zy.at (m - 1) (by omega)
  have bx0 := sL.at 0
  have bx1 := sL.at (n - 1)
  have by0 := sM.at 0
  have by1 := sM.at (m - 1)
  unfold cst at hends
  obtain ⟨p0, hp0⟩ : ∃ x, L.getD 0 0 = x := ⟨_, rfl⟩
  obtain ⟨p1, hp1⟩ : ∃ x, L.getD (n - 1) 0 = x := ⟨_, rfl⟩
  obtain ⟨q0, hq0⟩ : ∃ x, M.getD 0 0 = x := ⟨_, rfl⟩
  obtain ⟨q1, hq1⟩ : ∃ x, M.getD (m - 1) 0 = x := ⟨_, rfl⟩
  rw [hp0] at x0 bx0 hends
  rw [hp1] at x1 bx1 hends
  rw [hq0] at y0 by0 hends
  rw [hq1] at y1 by1 hends
  obtain ⟨nl, hnl⟩ : ∃ k, n - 1 = k := ⟨_, rfl⟩
  obtain ⟨ml, hml⟩ : ∃ k, m - 1 = k := ⟨_, rfl⟩
  rw [hnl] at x1
  rw [hml] at y1
  have hnli : (n : Int) - 1 = (nl : Int) := by omega
  have hmli : (m : Int) - 1 = (ml : Int) := by omega
  have znl : -9223372036854775808 ≤ (nl : Int) ∧ (nl : Int) ≤ 9223372036854775807 := by omega
  have zml : -9223372036854775808 ≤ (ml : Int) ∧ (ml : Int) ≤ 9223372036854775807 := by omega
  have wnl : IntKind.i64.wrap (nl : Int) = (nl : Int) := IntWalk.i64_in _ znl
  have wml : IntKind.i64.wrap (ml : Int) = (ml : Int) := IntWalk.i64_in _ zml
  have g1 : (0 : Int) < (n : Int) := by omega
  have g2 : (0 : Int) < (m : Int) := by omega
  have g3 : (nl : Int) < (n : Int) := by omega
  have g4 : (ml : Int) < (m : Int) := by omega
  obtain ⟨d0, hd0⟩ : ∃ d, p0 - q0 = d := ⟨_, rfl⟩
  obtain ⟨d1, hd1⟩ : ∃ d, p1 - q1 = d := ⟨_, rfl⟩
  rw [hd0, hd1] at hends
  have s0 := sq_bd (B := 2000) (x := d0) (by omega) (by omega)
  have s1 := sq_bd (B := 2000) (x := d1) (by omega) (by omega)
  have u0 : IntKind.i64.wrap d0 = d0 := IntWalk.i64_in _ (by omega)
  have u1 : IntKind.i64.wrap d1 = d1 := IntWalk.i64_in _ (by omega)
  obtain ⟨r0, hr0⟩ : ∃ d, d0 * d0 = d := ⟨_, rfl⟩
  obtain ⟨r1, hr1⟩ : ∃ d, d1 * d1 = d := ⟨_, rfl⟩
  rw [hr0] at hends s0
  rw [hr1] at hends s1
  have u2 : wrap64 (d0 * d0) = r0 := by rw [hr0]; exact IntWalk.wrap64_in _ (by omega)
  have u3 : wrap64 (d1 * d1) = r1 := by rw [hr1]; exact IntWalk.wrap64_in _ (by omega)
  have u4 : wrap64 (r0 + r1) = r0 + r1 := IntWalk.wrap64_in _ (by omega)
  obtain ⟨a, ha⟩ : ∃ a, wt L M k n m = a := ⟨_, rfl⟩
  rw [ha] at D1 hends hfin
  have HNLT : Hid (¬ a < r0 + r1) := by show ¬ _; omega
  have zb := tmod_bd a1
  have HZB := Lib.hid zb
  have DE : Hid (n < 32 → m < 32 → ∀ (W : World) (A B : Option Addr) (ca cb : Nat), Zi W A (n + 1) (L ++ [a1.tmod 1001]) → Zi W B (m + 1) (M ++ [a1.tmod 1001]) → Calls Try.prog 16 #[.slice A (n + 1) ca, .slice B (m + 1) cb, .int .i64 k] W fun e w' => ∃ c, c ≤ a ∧ e = .returned (.tuple #[.int .i64 c, .int .i64 0]) ∧ Bel W w') := fun h1 h2 W A B ca cb hz1 hz2 => by
    refine (distance_ok A B ca cb (n + 1) (m + 1) (L ++ [a1.tmod 1001]) (M ++ [a1.tmod 1001]) k (by omega) (by omega) (by omega) (by omega) k0 k1 (by omega) (by omega) (sam_app sL zb) (sam_app sM zb) W hz1 hz2).mono ?_
    rintro e w' ⟨rfl, hb⟩
    refine ⟨_, ?_, rfl, hb⟩
    have := wt_more (X := L) (Y := M) (b := k) (v := a1.tmod 1001) (by rw [lL, lM]; exact ⟨k2, k3⟩)
    rw [lL, lM, ha] at this
    exact this
  have HLET := Lib.hid (And.intro ha (And.intro hp0 (And.intro hp1 (And.intro hq0 (And.intro hq1 (And.intro hr0 (And.intro hr1 (And.intro hnl hml))))))))
  have HZX := Lib.hid zx
  have HZY := Lib.hid zy
  clear ha hp0 hp1 hq0 hq1 hr0 hr1 hnl hml zx zy hends hfin sL sM bx0 bx1 by0 by1 s0 s1 znl zml zb hox hoy w0
  go_wp2_with fail
  go_at_call 16
  refine (D1.out _ Bel.rf).mono ?_
  rintro e p2 ⟨rfl, hb⟩
  have HD_p2 : Hid (Bel v2 p2) := hb
  clear hb
  have cx0 := HD_p2.out.kp x0
  have cx1 := HD_p2.out.kp x1
  have cy0 := HD_p2.out.kp y0
  have cy1 := HD_p2.out.kp y1
  clear x0 x1 y0 y1
  go_wp2_with fail
  go_quiet (fail)
  obtain ⟨p3, hp3⟩ : ∃ W, W = p2.drewN nq := ⟨_, rfl⟩
  have HD_p3 : Hid (Bel v2 p3) := by rw [hp3]; exact HD_p2.out.drwN _
  rw [← hp3]
  clear hp3 cx0 cx1 cy0 cy1
  have nlt : ¬ a < r0 + r1 := by have := HNLT.out; omega
  have nltd : decide (a < r0 + r1) = false := decide_eq_false nlt
  rcases Nat.lt_or_ge n 32 with hn | hn
  · rcases Nat.lt_or_ge m 32 with hm | hm
    · have e1 : ¬ (n : Int) = 32 := by omega
      have e2 : ¬ (m : Int) = 32 := by omega
      have e1b : ((n : Int) == 32) = false := by simp; omega
      have e2b : ((m : Int) == 32) = false := by simp; omega
      have DE2 := Lib.hid (DE.out hn hm)
      have HZ3 : Hid (Zi p3 (some ⟨xa, 0, none⟩) n L ∧ Zi p3 (some ⟨ya, 0, none⟩) m M) := ⟨HZX.out.bel HD_p3.out, HZY.out.bel HD_p3.out⟩
      clear DE
      go_wp2_with (first
        | (at_builtin; (refine list_app _ rfl (.tmp 75) (.tmp 76) rfl p3.heap.size (.slice (some ⟨p3.heap.size, 0, none⟩) 0 0) 0 [] rfl (own_made p3 p3.heap.size rfl (Nat.le_refl _)) ⟨xa, 0, none⟩ n xb L rfl (HZ3.out.1.bel (Bel.rf.al _)) (by omega) (by simp) ?_); intro v4 w4 ho4 hg4 _; rw [Nat.zero_add, List.nil_append] at ho4; have hb4 : Hid (Bel p3 w4) := bel_grown (Bel.rf.al _) hg4 (fun q e => by cases e; exact Nat.le_refl _); have HO4 := Lib.hid ho4; have hs4 := hb4.out.size; clear ho4 hg4)
        | (at_builtin; refine list_app _ rfl (.tmp 77) (.tmp 79) rfl p3.heap.size v4 n L rfl (HO4.out.alloc _) ⟨w4.heap.size, 0, none⟩ 1 1 [a1.tmod 1001] rfl (zi_one (Bk.nw _ _ _)) (by omega) (by simp; omega) ?_; intro v5 w5 ho5 hg5 _; have hb5 : Hid (Bel p3 w5) := bel_grown (hb4.out.al _) hg5 (fun q e => (HO4.out.lt q e).1); have HX5 : Hid (∃ g c, v5 = .slice (some ⟨g, 0, none⟩) (n + 1) c ∧ n + 1 ≤ c ∧ p3.heap.size ≤ g) := row_form ho5 (by omega); obtain ⟨xg, xc, rfl, _, _⟩ := HX5.out; have HZX5 : Hid (Zi w5 (some ⟨xg, 0, none⟩) (n + 1) (L ++ [a1.tmod 1001])) := own_zi ho5 (by rw [List.length_append, HZX.out.1]; rfl); clear ho5 hg5 HX5)
        | (at_builtin; refine list_app _ rfl (.tmp 81) (.tmp 82) rfl w5.heap.size (.slice (some ⟨w5.heap.size, 0, none⟩) 0 0) 0 [] rfl (own_made w5 w5.heap.size rfl (Nat.le_refl _)) ⟨ya, 0, none⟩ m yb M rfl (HZ3.out.2.bel (hb5.out.al _)) (by omega) (by simp) ?_; intro v6 w6 ho6 hg6 _; rw [Nat.zero_add, List.nil_append] at ho6; have hb6 : Hid (Bel w5 w6) := bel_grown (Bel.rf.al _) hg6 (fun q e => by cases e; exact Nat.le_refl _); have HO6 := Lib.hid ho6; have hs6 := hb6.out.size; clear ho6 hg6)
        | (at_builtin; refine list_app _ rfl (.tmp 83) (.tmp 85) rfl w5.heap.size v6 m M rfl (HO6.out.alloc _) ⟨w6.heap.size, 0, none⟩ 1 1 [a1.tmod 1001] rfl (zi_one (Bk.nw _ _ _)) (by omega) (by simp; omega) ?_; intro v7 w7 ho7 hg7 _; have hb7 : Hid (Bel w5 w7) := bel_grown (hb6.out.al _) hg7 (fun q e => (HO6.out.lt q e).1); have HX7 : Hid (∃ g c, v7 = .slice (some ⟨g, 0, none⟩) (m + 1) c ∧ m + 1 ≤ c ∧ w5.heap.size ≤ g) := row_form ho7 (by omega); obtain ⟨yg, yc, rfl, _, _⟩ := HX7.out; have HZY7 : Hid (Zi w7 (some ⟨yg, 0, none⟩) (m + 1) (M ++ [a1.tmod 1001])) := own_zi ho7 (by rw [List.length_append, HZY.out.1]; rfl); clear ho7 hg7 HX7)
        | (go_at_call 16; refine (DE2.out _ _ _ _ _ (HZX5.out.bel hb7.out) HZY7.out).mono ?_; rintro e p4 ⟨c, hca, rfl, hb⟩; have HD_p4 : Hid (Bel v2 p4) := ((HD_p3.out.tr hb5.out).tr hb7.out).tr hb; have hcad : decide (c ≤ a) = true := decide_eq_true hca; clear hb)
        | (go_at_call 20; refine (AW.out _).mono ?_; rintro e w9 ⟨rfl, hb9⟩))
      go_ret
      exact ⟨rfl, ((HBb.out.tr HD_p4.out).tr hb9).bl⟩
    · obtain rfl : m = 32 := by omega
      have e1 : ¬ (n : Int) = 32 := by omega
      have e1b : ((n : Int) == 32) = false := by simp; omega
      go_wp2_with (go_at_call 20; refine (AW.out _).mono ?_; rintro e w9 ⟨rfl, hb9⟩)
      go_ret
      exact ⟨rfl, ((HBb.out.tr HD_p3.out).tr hb9).bl⟩
  · obtain rfl : n = 32 := by omega
    go_wp2_with (go_at_call 20; refine (AW.out _).mono ?_; rintro e w9 ⟨rfl, hb9⟩)
    go_ret
    exact ⟨rfl, ((HBb.out.tr HD_p3.out).tr hb9).bl⟩

set_option maxRecDepth 100000 in
theorem lifted (os : Os) (started : os.Started) (H : Type) (enc : TypeId × Value → H) :
    ReturnsInHanded {} Try.checked os 8 .any (Rows.warpEndsSpec.pre6 enc Try.prog Try.f8 Rows.warpEndsRow.domain false) (Rows.warpEndsSpec.post enc Try.prog Try.f8 false true false false) := by
  refine returnsInHanded_of_change (C := Try.checked) own started (by kernel_rfl) Try.func8
    (ChangeSpec.witness6 (enc := enc) (C := Try.checked) false ⟨#[], #[.slice none 0 0, .int .i16 0], []⟩ 8 (by kernel_rfl) (by kernel_rfl) (by kernel_rfl) (by kernel_rfl)) ?_
  intro W base args ds gs before hval0 hW hcnd _
  have hval : ∀ (j : Nat) t v, Try.f8.params[j]? = some t → args[j]? = some v → Value.okWide Try.prog W .any base t v := hval0
  have hW' := hW
  obtain ⟨p, q, hA0, hV, rfl, hfz, hnd⟩ := hW
  have hA : DataW.TrodAll enc Try.prog W 0 (fun _ => true) true Try.f8.params.toList args.toList ds p := hA0
  rw [Try.params8] at hA hval
  obtain ⟨v0, vs0, d0, ds0, p0, q0, hargs, rfl, rfl, h0, r0⟩ := trodAll_cons hA
  obtain ⟨v1, vs1, d1, ds1, p1, q1, rfl, rfl, rfl, h1, r1⟩ := trodAll_cons r0
  obtain ⟨rfl, rfl, rfl⟩ := trodAll_nil r1
  obtain rfl : args = #[v0, v1] := by cases args; simp_all
  obtain ⟨rfl, rfl⟩ := trodVars_none hV
  obtain ⟨a0, len0, cap0, rfl⟩ := okWide_slice Try.underlying22 (hval 0 22 v0 rfl rfl)
  have k0 := h0
  have lt0 : ∀ x ∈ p0, x.block < W.heap.size := by obtain ⟨m, hm⟩ := k0; exact DataW.trod_lt m _ _ _ hm
  obtain ⟨z0, w0⟩ : ∃ zs, IsRow .i64 W a0 len0 cap0 zs := by
    obtain ⟨fuel, hf⟩ := h0
    rcases open_ints Try.underlying22 Try.underlying3 (by kernel_rfl) hf with ⟨hcs, _⟩ | ⟨x, l, c, zs, hcs, _, hl, hm, hz, _, hcell, hwz⟩
    · simp [Value.cells] at hcs
      obtain ⟨rfl, rfl, rfl⟩ := hcs
      exact ⟨[], .inl ⟨rfl, rfl, rfl, rfl⟩⟩
    · simp [Value.cells] at hcs
      obtain ⟨rfl, rfl, rfl⟩ := hcs
      exact ⟨zs, .inr ⟨_, rfl, hl, hm, by simpa using hz, hcell, hwz⟩⟩
  obtain ⟨a1, rfl, rfl, rfl, w1⟩ := open_int Try.underlying45 (hval 1 45 v1 rfl rfl) h1
  clear hA0 hval0
  refine (walk a0 len0 cap0 z0 a1 W w0 w1).mono fun e W' ⟨he, bel⟩ => ?_
  subst he
  exact ⟨_, rfl, _, _, _, [], _, [], hW', trodAll_mk1 (shut_bool Try.underlying4 _), (trodAll_cons_mk (Below.trod laidOut (by kernel_rfl) (of_decide_eq_true (by kernel_rfl)) k0 bel lt0) (trodAll_cons_mk (shut_int Try.underlying45 w1) trodAll_mk0)), rfl, bel.frame _, fun h => by cases h⟩

theorem over : Rows.warpEndsRow.holds Try.pinned (OpenSpec.ofChange Rows.warpEndsSpec) :=
  OpenClaim.holds_of_wide 8 Try.f8 rfl rfl rfl rfl rfl rfl rfl ⟨rfl, rfl, rfl, rfl, rfl⟩ rfl rfl rfl rfl rfl (by kernel_rfl) Try.func8 (by kernel_rfl)
    (of_decide_eq_true (by kernel_rfl)) (by unfold Func.isWrapper; first | (rw [if_pos (by decide +kernel)]; kernel_rfl) | (rw [if_neg (by decide +kernel)]; exact ⟨rfl, rfl⟩))
    (fun os started H enc _ => lifted os started H enc)

theorem proved : Rows.WarpEndsSaid := over
end Go.Proofs.Ytkjffielnmdpcaa.warpEnds
