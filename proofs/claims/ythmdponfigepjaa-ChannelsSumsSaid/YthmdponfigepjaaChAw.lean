/- shapesearchlaw16.awake. -/
import Derived.Test.YthmdponfigepjaaChW
namespace Go.Proofs.Ythmdponfigepjaa.Ch
open Go.ChangeShapes Go.WideShapes Go.RowKit Wo Sr Wi
set_option linter.unusedVariables false
theorem sam_l {L : List Int} (h : (L.all fun x => decide (-1000 ≤ x) && decide (x ≤ 1000)) = true) : Sam L := fun x hx => by
  have := List.all_eq_true.1 h x hx
  simpa using this
def sel (L M : List Int) (j : Nat) : List Int := if j = 0 then L else M
theorem ex_a : aps 1 3 3 (sel [0, 0, 5] [0, 5, 5]) (sel [0, 5, 5] [0, 0, 5]) 2 = 0 := by simp [aps, sel, wg, mn3, mn, cst, Bnd, far]
theorem ex_t : wg (fs (sel [0, 0, 5] [0, 5, 5]) (sel [0, 5, 5] [0, 0, 5]) 2) 1 3 3 = 50 := by simp [fs, sel, wg, mn3, mn, cst, Bnd, far]
theorem bun_two {W : World} {g a b : Nat} {t : TypeId} {L M : List Int} (hg : Bk W g t #[.slice (some ⟨a, 0, none⟩) 3 3, .slice (some ⟨b, 0, none⟩) 3 3]) (h1 : Bk W a 3 (zs L).toArray) (h2 : Bk W b 3 (zs M).toArray) (l1 : L.length = 3) (l2 : M.length = 3) (s1 : Sam L) (s2 : Sam M) :
    Bun W g 2 3 (fun j => some ⟨if j = 0 then a else b, 0, none⟩) (fun _ => 3) (sel L M) := by
  refine ⟨hg.lt, fun j hj => ?_⟩
  rcases (show j = 0 ∨ j = 1 by omega) with rfl | rfl
  · exact ⟨hg.cell 0, zi_bk h1 3 l1, s1⟩
  · exact ⟨hg.cell 1, zi_bk h2 3 l2, s2⟩
set_option maxHeartbeats 4000000 in
set_option maxRecDepth 100000 in
theorem awake_any (w : World) : Calls Try.prog 23 #[] w fun e w' => e = .returned (.bool true) ∧ Bel w w' := by
  have E1 := Lib.hid ex_a
  have E2 := Lib.hid ex_t
  obtain ⟨W, hW⟩ : ∃ W, W = (((((w.alloc (.cells (zs [0, 0, 5]).toArray 3)).alloc (.cells (zs [0, 5, 5]).toArray 3)).alloc (.cells #[.slice (some ⟨w.heap.size, 0, none⟩) 3 3, .slice (some ⟨w.heap.size + 1, 0, none⟩) 3 3] 22)).alloc (.cells (zs [0, 5, 5]).toArray 3)).alloc (.cells (zs [0, 0, 5]).toArray 3)).alloc (.cells #[.slice (some ⟨w.heap.size + 3, 0, none⟩) 3 3, .slice (some ⟨w.heap.size + 4, 0, none⟩) 3 3] 22) := ⟨_, rfl⟩
  have HB : Hid (Bel w W) := by rw [hW]; exact ((((((Bel.rf.al _).al _).al _).al _).al _).al _)
  have HX : Hid (Bun W (w.heap.size + 2) 2 3 (fun j => some ⟨if j = 0 then w.heap.size else w.heap.size + 1, 0, none⟩) (fun _ => 3) (sel [0, 0, 5] [0, 5, 5])) := by
    rw [hW]
    exact bun_two ((((Bk.nq _ 22 _ (by simp)).al _).al _).al _) ((((((Bk.nw w 3 _).al _).al _).al _).al _).al _) (((((Bk.nq _ 3 _ (by simp)).al _).al _).al _).al _) rfl rfl (sam_l (by decide)) (sam_l (by decide))
  have HY : Hid (Bun W (w.heap.size + 5) 2 3 (fun j => some ⟨if j = 0 then w.heap.size + 3 else w.heap.size + 4, 0, none⟩) (fun _ => 3) (sel [0, 5, 5] [0, 0, 5])) := by
    rw [hW]
    exact bun_two (Bk.nq _ 22 _ (by simp)) (((Bk.nq _ 3 _ (by simp)).al _).al _) ((Bk.nq _ 3 _ (by simp)).al _) rfl rfl (sam_l (by decide)) (sam_l (by decide))
  subst hW
  go_enter Try.func23, Try.ntmps23
  go_wp2_with fail
  go_at_call 19
  refine (apart_ok _ _ 2 3 3 2 2 _ _ _ _ _ _ 1 (by decide) (by decide) (by decide) (by decide) (by decide) (by decide) (by decide) (by decide) (by decide) (by decide) _ HX.out HY.out).mono ?_
  rintro e w1 ⟨rfl, hb1⟩
  rw [E1.out]
  have HB1 := Lib.hid hb1
  clear hb1
  go_wp2_with fail
  go_at_call 20
  refine (together_ok _ _ 2 3 3 2 2 _ _ _ _ _ _ 1 (by decide) (by decide) (by decide) (by decide) (by decide) (by decide) (by decide) (by decide) (by decide) (by decide) _ (HX.out.bel HB1.out) (HY.out.bel HB1.out)).mono ?_
  rintro e w2 ⟨rfl, hb2⟩
  rw [E2.out]
  have HB2 : Hid (Bel w w2) := (HB.out.tr HB1.out).tr hb2
  clear hb2
  go_wp2
  go_ret
  exact ⟨rfl, HB2.out⟩
end Go.Proofs.Ythmdponfigepjaa.Ch
