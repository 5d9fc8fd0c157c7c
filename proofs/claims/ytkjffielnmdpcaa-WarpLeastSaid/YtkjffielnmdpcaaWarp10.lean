/- The contract of shapesearchlaw14.awake. -/
import Derived.Test.YtkjffielnmdpcaaWarp4
import Derived.Test.YtkjffielnmdpcaaWarp9
namespace Go.Proofs.Ytkjffielnmdpcaa.Wa
open Go.ChangeShapes Go.WideShapes Go.RowKit Wo Sr Wi Ed
set_option linter.unusedVariables false
theorem sam_l {L : List Int} (h : (L.all fun x => decide (-1000 ≤ x) && decide (x ≤ 1000)) = true) : Sam L := fun x hx => by
  have := List.all_eq_true.1 h x hx
  simpa using this
theorem ex1 : wt [0, 9] [0, 5, 9] 1 2 3 = 16 := by simp [wt, mn3, mn, cst, Bnd, far]
theorem ex_a : tr [0, 0, 5] [0, 5, 5] 1 3 3 0 = (2, 2) := rfl
theorem ex_b : tr [0, 0, 5] [0, 5, 5] 1 3 3 1 = (2, 1) := by
  show bk [0, 0, 5] [0, 5, 5] 1 (tr [0, 0, 5] [0, 5, 5] 1 3 3 0).1 (tr [0, 0, 5] [0, 5, 5] 1 3 3 0).2 = _
  rw [ex_a]; simp [bk, wt, mn3, mn, cst, Bnd, far]
theorem ex_c : tr [0, 0, 5] [0, 5, 5] 1 3 3 2 = (1, 0) := by
  show bk [0, 0, 5] [0, 5, 5] 1 (tr [0, 0, 5] [0, 5, 5] 1 3 3 1).1 (tr [0, 0, 5] [0, 5, 5] 1 3 3 1).2 = _
  rw [ex_b]; simp [bk, wt, mn3, mn, cst, Bnd, far]
theorem ex_d : tr [0, 0, 5] [0, 5, 5] 1 3 3 3 = (0, 0) := by
  show bk [0, 0, 5] [0, 5, 5] 1 (tr [0, 0, 5] [0, 5, 5] 1 3 3 2).1 (tr [0, 0, 5] [0, 5, 5] 1 3 3 2).2 = _
  rw [ex_c]; simp [bk, wt, mn3, mn, cst, Bnd, far]
theorem ex_T {T : Nat} (h : tr [0, 0, 5] [0, 5, 5] 1 3 3 T = (0, 0)) (hne : ∀ u, u < T → tr [0, 0, 5] [0, 5, 5] 1 3 3 u ≠ (0, 0)) : T = 3 ∧ (trs [0, 0, 5] [0, 5, 5] 1 3 3 T).reverse = [(0, 0), (1, 0), (2, 1), (2, 2)] := by
  have h1 : T ≤ 3 := by
    rcases Nat.lt_or_ge 3 T with h | h
    · exact absurd ex_d (hne 3 h)
    · exact h
  have h3 : T = 3 := by
    rcases (show T = 0 ∨ T = 1 ∨ T = 2 ∨ T = 3 by omega) with rfl | rfl | rfl | rfl
    · rw [ex_a] at h; cases h
    · rw [ex_b] at h; cases h
    · rw [ex_c] at h; cases h
    · rfl
  subst h3
  refine ⟨rfl, ?_⟩
  have e : trs [0, 0, 5] [0, 5, 5] 1 3 3 3 = [tr [0, 0, 5] [0, 5, 5] 1 3 3 0, tr [0, 0, 5] [0, 5, 5] 1 3 3 1, tr [0, 0, 5] [0, 5, 5] 1 3 3 2, tr [0, 0, 5] [0, 5, 5] 1 3 3 3] := rfl
  rw [e, ex_a, ex_b, ex_c, ex_d]; rfl
theorem zp_bk {w : World} {h : Nat} {t : TypeId} {l : List Pr} {cs : Array Value} (hb : Bk w h t cs) (hc : cs = (ps l).toArray) (n : Nat) (hn : l.length = n) : Zp w (some ⟨h, 0, none⟩) n l := by
  subst hn hc
  refine ⟨rfl, fun _ => ⟨_, rfl, hb.lt, fun j hj => ?_⟩⟩
  have e := ps_at l j hj
  rw [add_row, add_row, hb.cell, hb.cell]
  simpa using e
set_option maxHeartbeats 4000000 in
set_option maxRecDepth 100000 in
theorem awake_any (w : World) : Calls Try.prog 20 #[] w fun e w' => e = .returned (.bool true) ∧ Bel w w' := by
  have E1 := Lib.hid ex1
  have ET : Hid (∀ {T : Nat}, tr [0, 0, 5] [0, 5, 5] 1 3 3 T = (0, 0) → (∀ u, u < T → tr [0, 0, 5] [0, 5, 5] 1 3 3 u ≠ (0, 0)) → _) := fun h h' => ex_T h h'
  go_enter Try.func20, Try.ntmps20
  go_wp2_with fail
  go_at_call 16
  refine (distance_ok _ _ 2 3 2 3 [0, 9] [0, 5, 9] 1 (by decide) (by decide) (by decide) (by decide) (by decide) (by decide) (by decide) (by decide) (sam_l (by decide)) (sam_l (by decide)) _ (zi_bk ((Bk.nw w 3 _).al _) 2 rfl) (zi_bk (Bk.nq _ 3 _ (by simp)) 3 rfl)).mono ?_
  rintro e w1 ⟨rfl, hb1⟩
  rw [E1.out]
  have HB1 : Hid (Bel w w1) := ((Bel.rf.al _).al _).tr hb1
  clear hb1
  go_wp2_with fail
  go_at_call 17
  refine (path_ok _ _ 3 3 3 3 [0, 0, 5] [0, 5, 5] 1 (by decide) (by decide) (by decide) (by decide) (by decide) (by decide) (by decide) (by decide) (sam_l (by decide)) (sam_l (by decide)) _ (zi_bk ((Bk.nw w1 3 _).al _) 3 rfl) (zi_bk (Bk.nq _ 3 _ (by simp)) 3 rfl)).mono ?_
  rintro e w2 ⟨h, c, T, rfl, hz, hT, hne, hb2⟩
  obtain ⟨rfl, hl⟩ := ET.out hT hne
  rw [hl] at hz
  have HB2 : Hid (Bel w w2) := ((HB1.out.al _).al _).tr hb2
  have HZ : Hid (Zp w2 (some ⟨h, 0, none⟩) 4 [(0, 0), (1, 0), (2, 1), (2, 2)]) := own_zp hz rfl
  clear hb2 hz hT hne hl
  go_wp2_with (go_at_call 45; refine (same_ok h w2.heap.size c 4 4 [(0, 0), (1, 0), (2, 1), (2, 2)] (by decide) _ (HZ.out.bel (Bel.rf.al _)) (zp_bk (Bk.nw _ 64 _) rfl 4 rfl)).mono ?_; rintro e w4 ⟨rfl, hb4⟩)
  go_ret
  exact ⟨rfl, (HB2.out.al _).tr hb4⟩
end Go.Proofs.Ytkjffielnmdpcaa.Wa
