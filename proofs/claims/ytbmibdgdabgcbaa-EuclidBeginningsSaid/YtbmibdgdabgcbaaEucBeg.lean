/- Plain facts: the mean square of the beginning of a list is not greater than that of the whole, times their lengths. -/
import Derived.Test.YtbmibdgdabgcbaaEucMath
namespace Go.Proofs.Ytbmibdgdabgcbaa.Wi
set_option linter.unusedVariables false
theorem vr_begin (A B : List Int) : vr A * ((A ++ B).length : Int) ≤ vr (A ++ B) * (A.length : Int) := by
  have hB := vr_nn B
  have e : vr (A ++ B) * (A.length : Int) - vr A * ((A ++ B).length : Int) =
      (B.length : Int) * (su ix A * su ix A) - 2 * (A.length : Int) * (su ix A * su ix B) + (A.length : Int) * (A.length : Int) * su sq B + (A.length : Int) * vr B := by
    unfold vr
    rw [su_append, su_append, List.length_append, show ((A.length + B.length : Nat) : Int) = (A.length : Int) + (B.length : Int) by omega]
    grind
  have hA : 0 ≤ (A.length : Int) := by omega
  have hl : 0 ≤ (B.length : Int) := by omega
  have h1 : 0 ≤ (A.length : Int) * vr B := Int.mul_nonneg hA hB
  have key : 0 ≤ (B.length : Int) * (su ix A * su ix A) - 2 * (A.length : Int) * (su ix A * su ix B) + (A.length : Int) * (A.length : Int) * su sq B := by
    rcases Int.lt_or_le 0 (B.length : Int) with hb | hb
    · have e2 : (B.length : Int) * ((B.length : Int) * (su ix A * su ix A) - 2 * (A.length : Int) * (su ix A * su ix B) + (A.length : Int) * (A.length : Int) * su sq B) =
          ((B.length : Int) * su ix A - (A.length : Int) * su ix B) * ((B.length : Int) * su ix A - (A.length : Int) * su ix B) + (A.length : Int) * (A.length : Int) * vr B := by
        unfold vr; grind
      have h2 := sq_nn ((B.length : Int) * su ix A - (A.length : Int) * su ix B)
      have h3 : 0 ≤ (A.length : Int) * (A.length : Int) * vr B := Int.mul_nonneg (Int.mul_nonneg hA hA) hB
      generalize (B.length : Int) * (su ix A * su ix A) - 2 * (A.length : Int) * (su ix A * su ix B) + (A.length : Int) * (A.length : Int) * su sq B = T at *
      rcases Int.lt_or_le T 0 with ht | ht
      · have h4 : 0 < (B.length : Int) * -T := Int.mul_pos hb (by omega)
        have e3 : (B.length : Int) * -T = -((B.length : Int) * T) := by grind
        omega
      · exact ht
    · have hz : B = [] := List.eq_nil_of_length_eq_zero (by omega)
      subst hz
      simp [su]
  omega
theorem su_drop (f : Int → Int) (L : List Int) (k : Nat) : su f (L.take k) + su f (L.drop k) = su f L := by
  rw [← su_append, List.take_append_drop]
theorem vr_take (D : List Int) (k n : Nat) (hn : D.length = n) (hk : k ≤ n) : vr (D.take k) * (n : Int) ≤ vr D * (k : Int) := by
  have h := vr_begin (D.take k) (D.drop k)
  rw [List.take_append_drop, hn, List.length_take, hn, show min k n = k by omega] at h
  exact h
theorem frac_le {a b c d g e p q r s : Int} (hg : 0 < g) (he : 0 < e) (e1 : a * g = p) (e2 : b * g = q) (e3 : c * e = r) (e4 : d * e = s) (h : p * s ≤ r * q) : a * d ≤ c * b := by
  have h0 : 0 < g * e := Int.mul_pos hg he
  have e5 : p * s = a * d * (g * e) := by rw [← e1, ← e4]; grind
  have e6 : r * q = c * b * (g * e) := by rw [← e3, ← e2]; grind
  rcases Int.lt_or_le (c * b) (a * d) with hl | hl
  · have := Int.mul_lt_mul_of_pos_right hl h0
    omega
  · exact hl
end Go.Proofs.Ytbmibdgdabgcbaa.Wi
