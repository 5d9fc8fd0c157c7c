/- Plain facts of split words. -/
import Derived.Test.YtgdhgeongdenpaaWd5
import Derived.Test.YtgdhgeongdenpaaWd8
namespace Go.Proofs.Ytgdhgeongdenpaa.Wd
open Go.ChangeShapes Go.WideShapes Go.RowKit Wo Sr Wi Ms
set_option linter.unusedVariables false
set_option linter.unusedSimpArgs false
theorem getD_set (L : List Int) (p i : Nat) (x : Int) (h : p < L.length) : (L.set p x).getD i 0 = if p = i then x else L.getD i 0 := by
  rw [List.getD_eq_getElem?_getD, List.getElem?_set, List.getD_eq_getElem?_getD]
  by_cases e : p = i
  · subst e; simp [h]
  · simp [e]
theorem zi_fz {w w' w0 : World} {A : Option Addr} {n g : Nat} {L : List Int} (h : Zi w A n L) (hc : Ch g w w') (hf : Fz w0 A n) (hg : g < w0.heap.size) : Zi w' A n L := ⟨h.1, fun h0 => (h.ch hc (hf.ne h0 hg)).2 h0⟩
theorem wv_split {n p : Nat} {S B : List Int} (hv : Wv n S B) (hp : p < n) (h4 : B.getD p 0 ≠ 4) (d : Int) (d0 : 0 ≤ d) (d1 : d ≤ 1) : Wv n (S.set p (2 * S.getD p 0 + d)) (B.set p (B.getD p 0 + 1)) := by
  obtain ⟨lS, lB, h⟩ := hv
  refine ⟨by simpa using lS, by simpa using lB, fun i hi => ?_⟩
  rw [getD_set _ _ _ _ (by omega), getD_set _ _ _ _ (by omega)]
  obtain ⟨a0, a1, a2, a3⟩ := h i hi
  by_cases e : p = i
  · subst e
    rw [if_pos rfl, if_pos rfl]
    obtain ⟨b, hb⟩ : ∃ b, B.getD p 0 = b := ⟨_, rfl⟩
    obtain ⟨s, hs⟩ : ∃ s, S.getD p 0 = s := ⟨_, rfl⟩
    rw [hb] at a0 a1 a3 h4 ⊢
    rw [hs] at a2 a3 ⊢
    rcases (by omega : b = 0 ∨ b = 1 ∨ b = 2 ∨ b = 3) with rfl | rfl | rfl | rfl <;> simp at a3 ⊢ <;> omega
  · rw [if_neg e, if_neg e]; exact ⟨a0, a1, a2, a3⟩
end Go.Proofs.Ytgdhgeongdenpaa.Wd
