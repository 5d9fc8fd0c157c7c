/- The greatest gap is the gap of some channel, and none is greater; a built bundle. -/
import Derived.Test.YthmdponfigepjaaChRg
import Derived.Test.YthmdponfigepjaaChZ
namespace Go.Proofs.Ythmdponfigepjaa.Ch
open Go.ChangeShapes Go.WideShapes Go.RowKit Wo Sr Wi Nr Ra Eu
set_option linter.unusedVariables false
theorem rp_nil {p : Int × Int} (h : RP p) (h0 : p.1 ≤ 0) : p = (0, 1) := by
  obtain ⟨a, b⟩ := p
  obtain ⟨⟨h1, h2, h3, h4⟩, h5⟩ := h
  obtain rfl : a = 0 := by have : a ≤ 0 := h0; have : 0 ≤ a := h1; omega
  have e : gd 0 b = b := by rw [gd_comm]; exact gd_zero (show (0 : Int) ≤ b by have : 1 ≤ b := h3; omega)
  have : b = 1 := e.symm.trans h5
  rw [this]
theorem gs_is (Ls Ms : Nat → List Int) : ∀ t, (∀ c, c < t + 1 → RP (gp Ls Ms c)) → ∃ j, j < t + 1 ∧ gp Ls Ms j = gs Ls Ms (t + 1)
  | 0, h => by
    refine ⟨0, by omega, ?_⟩
    show gp Ls Ms 0 = mxr (0, 1) (gp Ls Ms 0)
    unfold mxr
    split
    · rfl
    · rename_i h0
      exact rp_nil (h 0 (by omega)) (by have h1 : ¬ (0 * (gp Ls Ms 0).2 < (gp Ls Ms 0).1 * 1) := h0; omega)
  | t + 1, h => by
    obtain ⟨j, hj, e⟩ := gs_is Ls Ms t (fun c hc => h c (by omega))
    show ∃ j, j < t + 1 + 1 ∧ gp Ls Ms j = mxr (gs Ls Ms (t + 1)) (gp Ls Ms (t + 1))
    unfold mxr
    split
    · exact ⟨t + 1, by omega, rfl⟩
    · exact ⟨j, by omega, e⟩
theorem mxr_ge2 (p r : Int × Int) : r.1 * (mxr p r).2 ≤ (mxr p r).1 * r.2 := by
  unfold mxr
  split
  · exact Int.le_refl _
  · omega
theorem gs_ge {Ls Ms : Nat → List Int} : ∀ t, (∀ c, c < t → RP (gp Ls Ms c)) → ∀ j, j < t → (gp Ls Ms j).1 * (gs Ls Ms t).2 ≤ (gs Ls Ms t).1 * (gp Ls Ms j).2
  | 0, _, j, hj => by omega
  | t + 1, h, j, hj => by
    have hR : ∀ u, u ≤ t + 1 → RP (gs Ls Ms u) := by
      intro u
      induction u with
      | zero => intro _; exact rp_zero
      | succ u ih => intro hu; exact mxr_rv (ih (by omega)) (h u (by omega))
    rcases Nat.lt_or_ge j t with hjt | hjt
    · have a := gs_ge t (fun c hc => h c (by omega)) j hjt
      have b := mxr_ge (gs Ls Ms t) (gp Ls Ms t)
      exact le_trans_frac (h j hj).1.2.2.1 (hR t (by omega)).1.2.2.1 (hR (t + 1) (by omega)).1.2.2.1 a b
    · obtain rfl : j = t := by omega
      exact mxr_ge2 _ _
/-- a bundle whose slices have been built -/
theorem bun_cns {W : World} {g n B : Nat} {t : TypeId} {P : List Cn} {cs : Array Value} (hg : Bk W g t cs) (hc : cs = (P.map (Cn.v n)).toArray) (hP : ∀ u ∈ P, u.ok W B n) :
    Bun W g P.length n (fun j => some ⟨(P.getD j ⟨0, 0, []⟩).b, 0, none⟩) (fun j => (P.getD j ⟨0, 0, []⟩).c) (fun j => (P.getD j ⟨0, 0, []⟩).l) := by
  subst hc
  refine ⟨hg.lt, fun j hj => ?_⟩
  have hgd : P.getD j ⟨0, 0, []⟩ = P[j] := by rw [List.getD_eq_getElem?_getD, List.getElem?_eq_getElem hj]; rfl
  have hk := hP _ (List.getElem_mem hj)
  simp only [hgd]
  refine ⟨?_, hk.zi, hk.2.2⟩
  rw [hg.cell j]
  simp [List.getElem?_map, List.getElem?_eq_getElem hj, Cn.v]
end Go.Proofs.Ythmdponfigepjaa.Ch
