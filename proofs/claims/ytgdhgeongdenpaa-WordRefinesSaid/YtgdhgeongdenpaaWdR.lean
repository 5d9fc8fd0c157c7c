/- Plain facts of split words. -/
import Derived.Test.YtgdhgeongdenpaaWd5
import Derived.Test.YtgdhgeongdenpaaWd8
namespace Go.Proofs.Ytgdhgeongdenpaa.Wd
open Go.ChangeShapes Go.WideShapes Go.RowKit Wo Sr Wi Ms
set_option linter.unusedVariables false
set_option linter.unusedSimpArgs false
theorem getD_set (L : List Int) (p i : Nat) (x : Int) (h : p < L.length) : (L.set p x).getD i 0 = if p = i then x else L.getD i 0 := by
  rw [List.getD_eq_getElem?_getD, List.getElem?_set, List.getD_eq_getElem?_getD]
  by_cases e : p = i
  · subst e; simp [h]
  · simp [e]
theorem zi_fz {w w' w0 : World} {A : Option Addr} {n g : Nat} {L : List Int} (h : Zi w A n L) (hc : Ch g w w') (hf : Fz w0 A n) (hg : g < w0.heap.size) : Zi w' A n L := ⟨h.1, fun h0 => (h.ch hc (hf.ne h0 hg)).2 h0⟩
theorem wv_split {n p : Nat} {S B : List Int} (hv : Wv n S B) (hp : p < n) (h4 : B.getD p 0 ≠ 4) (d : Int) (d0 : 0 ≤ d) (d1 : d ≤ 1) : Wv n (S.set p (2 * S.getD p 0 + d)) (B.set p (B.getD p 0 + 1)) := by
  obtain ⟨lS, lB, h⟩ := hv
  refine ⟨by simpa using lS, by simpa using lB, fun i hi => ?_⟩
  rw [getD_set _ _ _ _ (by omega), getD_set _ _ _ _ (by omega)]
  obtain ⟨a0, a1, a2, a3⟩ := h i hi
  by_cases e : p = i
  · subst e
    rw [if_pos rfl, if_pos rfl]
    obtain ⟨b, hb⟩ : ∃ b, B.getD p 0 = b := ⟨_, rfl⟩
    obtain ⟨s, hs⟩ : ∃ s, S.getD p 0 = s := ⟨_, rfl⟩
    rw [hb] at a0 a1 a3 h4 ⊢
    rw [hs] at a2 a3 ⊢
    rcases (by omega : b = 0 ∨ b = 1 ∨ b = 2 ∨ b = 3) with rfl | rfl | rfl | rfl <;> simp at a3 ⊢ <;> omega
  · rw [if_neg e, if_neg e]; exact ⟨a0, a1, a2, a3⟩
theorem fst_split (s : Int) (b : Nat) (s0 : 0 ≤ s) (hb : b < 4) : fst (2 * s + 0) (b + 1) = fst s b ∧ fst (2 * s + 1) (b + 1) = lst (2 * s + 0) (b + 1) + 1 ∧ lst (2 * s + 1) (b + 1) = lst s b ∧ fst (2 * s + 0) (b + 1) ≤ lst (2 * s + 0) (b + 1) ∧ fst (2 * s + 1) (b + 1) ≤ lst (2 * s + 1) (b + 1) := by
  obtain ⟨t, rfl⟩ := Int.eq_ofNat_of_zero_le s0
  have e0 : (2 * (t : Int) + 0).toNat = 2 * t := by omega
  have e1 : (2 * (t : Int) + 1).toNat = 2 * t + 1 := by omega
  unfold lst fst
  rw [e0, e1]
  rcases (by omega : b = 0 ∨ b = 1 ∨ b = 2 ∨ b = 3) with rfl | rfl | rfl | rfl <;> simp <;> omega
theorem tri (a b N : Int) : (a ≤ N ∧ N ≤ b) ∨ (a ≤ N ∧ ¬ N ≤ b) ∨ ¬ a ≤ N := by omega
theorem rgn_split {n p i : Nat} {C S B : List Int} (hC : Cv C) (hv : Wv n S B) (hp : p < n) (h4 : B.getD p 0 ≠ 4) (hi : i < n) (N : Int) (n1 : -700 ≤ N) (n2 : N ≤ 700) :
    (i ≠ p → (rgn n C (S.set p (2 * S.getD p 0 + 0)) (B.set p (B.getD p 0 + 1))).getD i (0, 0) = (rgn n C S B).getD i (0, 0) ∧ (rgn n C (S.set p (2 * S.getD p 0 + 1)) (B.set p (B.getD p 0 + 1))).getD i (0, 0) = (rgn n C S B).getD i (0, 0)) ∧
    (i = p → ((((rgn n C S B).getD i (0, 0)).1 ≤ N ∧ N ≤ ((rgn n C S B).getD i (0, 0)).2) ↔ ((((rgn n C (S.set p (2 * S.getD p 0 + 0)) (B.set p (B.getD p 0 + 1))).getD i (0, 0)).1 ≤ N ∧ N ≤ ((rgn n C (S.set p (2 * S.getD p 0 + 0)) (B.set p (B.getD p 0 + 1))).getD i (0, 0)).2) ∨ (((rgn n C (S.set p (2 * S.getD p 0 + 1)) (B.set p (B.getD p 0 + 1))).getD i (0, 0)).1 ≤ N ∧ N ≤ ((rgn n C (S.set p (2 * S.getD p 0 + 1)) (B.set p (B.getD p 0 + 1))).getD i (0, 0)).2))) ∧ ¬ ((((rgn n C (S.set p (2 * S.getD p 0 + 0)) (B.set p (B.getD p 0 + 1))).getD i (0, 0)).1 ≤ N ∧ N ≤ ((rgn n C (S.set p (2 * S.getD p 0 + 0)) (B.set p (B.getD p 0 + 1))).getD i (0, 0)).2) ∧ (((rgn n C (S.set p (2 * S.getD p 0 + 1)) (B.set p (B.getD p 0 + 1))).getD i (0, 0)).1 ≤ N ∧ N ≤ ((rgn n C (S.set p (2 * S.getD p 0 + 1)) (B.set p (B.getD p 0 + 1))).getD i (0, 0)).2))) := by
  rw [rgn_at _ _ _ _ _ hi, rgn_at _ _ _ _ _ hi, rgn_at _ _ _ _ _ hi, getD_set _ _ _ _ (by have := hv.1; have := hv.2.1; omega), getD_set _ _ _ _ (by have := hv.1; have := hv.2.1; omega), getD_set _ _ _ _ (by have := hv.1; have := hv.2.1; omega)]
  constructor
  · intro e
    rw [if_neg (fun h => e h.symm), if_neg (fun h => e h.symm), if_neg (fun h => e h.symm)]
    exact ⟨rfl, rfl⟩
  · intro e
    subst e
    rw [if_pos rfl, if_pos rfl, if_pos rfl]
    obtain ⟨a0, a1, a2, a3⟩ := hv.2.2 i hp
    obtain ⟨s, hs⟩ : ∃ x, S.getD i 0 = x := ⟨_, rfl⟩
    obtain ⟨b, hb⟩ : ∃ x, B.getD i 0 = x := ⟨_, rfl⟩
    rw [hb] at a0 a1 a3 h4 ⊢
    rw [hs] at a2 ⊢
    have eb : (b + 1).toNat = b.toNat + 1 := by omega
    rw [eb]
    obtain ⟨f1, f2, f3, f4, f5⟩ := fst_split s b.toNat a2 (by omega)
    rw [ivl_in hC _ _ (by omega) N (by omega) (by omega), ivl_in hC _ _ f4 N (by omega) (by omega), ivl_in hC _ _ f5 N (by omega) (by omega)]
    constructor
    · constructor
      · intro h; omega
      · intro h; omega
    · intro h; omega
end Go.Proofs.Ytgdhgeongdenpaa.Wd
