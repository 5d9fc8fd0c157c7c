/- What PiecesBound says of the values of both bounds and of both distances. -/
import Derived.Test.YtkbpcaggkngpnaaPieL
import Derived.Test.YtkbpcaggkngpnaaRefMk
namespace Go.Proofs.Ytkbpcaggkngpnaa.Pc
open Go.ChangeShapes Go.WideShapes Go.RowKit Wo Sr Wi Ra Nr Eu
set_option linter.unusedVariables false
theorem bound_cmps {D : List Int} {m n : Nat} {t1 u1 t2 u2 t3 u3 S : Int} (hD : D.length = m) (m2 : 2 ≤ m) (m32 : m ≤ 32) (n1 : 1 ≤ n) (nm : n ≤ m) (eS : su sq D = S) (hS : S ≤ 128000000)
    (h1 : Vl t1 u1 (bq D m n) (1 * (((m / n : Nat) : Int) * (((m / n : Nat) : Int) + 1)))) (h2 : Vl t2 u2 (bq (cen D) m n) ((m : Int) * (m : Int) * (((m / n : Nat) : Int) * (((m / n : Nat) : Int) + 1)))) (h3 : Vl t3 u3 (vr D) (m : Int)) :
    (∀ w, Calls Try.prog 21 #[.agg #[.int .i64 t1, .int .i64 u1], .agg #[.int .i64 S, .int .i64 1]] w fun e w' => ∃ c, e = .returned (.int .i64 c) ∧ c ≤ 0 ∧ Bel w w') ∧
    (∀ w, Calls Try.prog 21 #[.agg #[.int .i64 t2, .int .i64 u2], .agg #[.int .i64 t3, .int .i64 u3]] w fun e w' => ∃ c, e = .returned (.int .i64 c) ∧ c ≤ 0 ∧ Bel w w') ∧
    (∀ w, Calls Try.prog 21 #[.agg #[.int .i64 t2, .int .i64 u2], .agg #[.int .i64 t1, .int .i64 u1]] w fun e w' => ∃ c, e = .returned (.int .i64 c) ∧ c ≤ 0 ∧ Bel w w') ∧
    (n = m → t1 = S ∧ u1 = 1 ∧ t2 = t3 ∧ u2 = u3) := by
  have c1 := (cq_in m n n1 nm m32).1
  have mm := mm_in m2 m32
  have hb := bq_le D m n hD n1
  have hc := bq_le (cen D) m n (by rw [cen_len', hD]) n1
  have hz := bq_cen D m n hD n1
  have ha := bq_all D m hD (by omega)
  have hac := bq_all (cen D) m (by rw [cen_len', hD]) (by omega)
  rw [cen_sq, hD] at hc hac
  have s0 := susq_nn D
  rw [eS] at hb ha s0
  change Vl t1 u1 (bq D m n) (1 * cq m n) at h1
  change Vl t2 u2 (bq (cen D) m n) ((m : Int) * (m : Int) * cq m n) at h2
  rw [Int.one_mul] at h1
  have hSv : Vl S 1 (S * cq m n) (cq m n) := ⟨⟨⟨s0, by omega, by decide, by decide⟩, by unfold gd; simp⟩, by rw [Int.mul_one]⟩
  have C2 : 1 ≤ (m : Int) * (m : Int) * cq m n := by
    have a : 1 * 1 ≤ (m : Int) * (m : Int) * cq m n := Int.mul_le_mul mm c1 (by omega) (by omega)
    omega
  have h3' := vl_scale (k := (m : Int) * cq m n) h3
  rw [← Int.mul_assoc (m : Int) (m : Int)] at h3'
  have h1' := vl_scale (k := (m : Int) * (m : Int)) h1
  rw [Int.mul_comm (cq m n)] at h1'
  refine ⟨fun w => cmp_le c1 h1 hSv hb w, fun w => cmp_le C2 h2 h3' ?_ w, fun w => cmp_le C2 h2 h1' ?_ w, fun e => ?_⟩
  · refine Int.le_trans hc (Int.le_of_eq ?_)
    grind
  · have : 0 ≤ (m : Int) * cq m n * (su ix D * su ix D) := Int.mul_nonneg (Int.mul_nonneg (by omega) (by omega)) (sq_nn _)
    rw [hz, Int.mul_comm (bq D m n)]
    omega
  · subst e
    rw [ha.1, ha.2] at h1
    rw [ha.2] at hSv c1
    obtain ⟨e1, e2⟩ := vl_eq c1 h1 hSv
    rw [hac.1, ha.2] at h2
    rw [ha.2] at h3' C2
    have e3 : vr D * ((n : Int) * 2) = (n : Int) * vr D * 2 := by grind
    rw [e3] at h3'
    obtain ⟨e4, e5⟩ := vl_eq C2 h2 h3'
    exact ⟨e1, e2, e4, e5⟩
end Go.Proofs.Ytkbpcaggkngpnaa.Pc
