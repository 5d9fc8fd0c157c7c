/- Parts and moves of series of values. -/
import Derived.Test.YtdkibffbaamkkaaRes6
import Derived.Test.YtdkibffbaamkkaaRes7
import Derived.Deep.DeepCutAuto
import Derived.Deep.CutBlock
import Derived.Deep.CutRange
import Derived.Deep.RegionWith
namespace Go.Proofs.Ytdkibffbaamkkaa.Rg
open Go.ChangeShapes Go.WideShapes Go.RowKit Wo Sr Wi Rm
theorem zi_sub {w : World} {h N : Nat} {Z : List Int} (hz : Zi w (some ⟨h, 0, none⟩) N Z) (i n : Nat) (hi : i + n ≤ N) : Zi w (some ⟨h, i, none⟩) n ((Z.drop i).take n) := by
  have hl := hz.1
  refine ⟨by simp; omega, fun hn => ?_⟩
  obtain ⟨ad, e, hx, _⟩ := hz.2 (by omega)
  cases e
  refine ⟨_, rfl, hx, fun j hj => ?_⟩
  have := hz.at (i + j) (by omega)
  rw [show (⟨h, i, none⟩ : Addr).add j = ⟨h, i + j, none⟩ by unfold Addr.add; split <;> simp_all, this]
  simp [List.getD_eq_getElem?_getD, hj]
theorem vals_part (l : List Rp) (f s r q : Int) (N k n : Nat) (h : k + n ≤ N) : ((vals l f s r q N).drop k).take n = vals l (f + (k : Int) * s) s r q n := by
  have h1 : (((vals l f s r q N).drop k).take n).length = n := by simp [vals_len]; omega
  refine lists_eq (by rw [h1, vals_len]) fun i hi => ?_
  rw [h1] at hi
  have e : (((vals l f s r q N).drop k).take n).getD i 0 = (vals l f s r q N).getD (k + i) 0 := by simp [List.getD_eq_getElem?_getD, hi]
  rw [e, vals_at _ _ _ _ _ _ _ (by omega), vals_at _ _ _ _ _ _ _ hi]
  congr 2
  have : ((k + i : Nat) : Int) * s = (k : Int) * s + (i : Int) * s := by rw [Int.natCast_add, Int.add_mul]
  omega
theorem gv_part {f s r q : Int} {N k n : Nat} (h : Gv f s (N : Int) r q) (hf : f ≤ 1099511627576) (hs : s ≤ 9) (hN : N ≤ 19) (hk : k + n ≤ N) : Gv (f + (k : Int) * s) s (n : Int) r q := by
  obtain ⟨f0, f1, s0, s1, c0, c1, h1, r0, r1, q0, q1⟩ := h
  have a : (k : Int) * s ≤ (k : Int) * 9 := Int.mul_le_mul_of_nonneg_left hs (by omega)
  have b : 0 ≤ (k : Int) * s := Int.mul_nonneg (by omega) (by omega)
  refine ⟨by omega, by omega, s0, s1, by omega, by omega, fun h => ?_, r0, r1, q0, q1⟩
  have c : ((n : Int) - 1) * s ≤ ((n : Int) - 1) * 9 := Int.mul_le_mul_of_nonneg_left hs (by omega)
  omega
theorem prod_in {s : Int} {k N : Nat} (s0 : 1 ≤ s) (s1 : s ≤ 9) (hN : N ≤ 19) (hk : k ≤ N) : 0 ≤ (k : Int) * s ∧ (k : Int) * s ≤ 171 := by
  have a : (k : Int) * s ≤ (k : Int) * 9 := Int.mul_le_mul_of_nonneg_left s1 (by omega)
  have b : 0 ≤ (k : Int) * s := Int.mul_nonneg (by omega) (by omega)
  omega
end Go.Proofs.Ytdkibffbaamkkaa.Rg
