/- Plain facts about long division by a number of two digits (Knuth's algorithm D for two by one): no program here. -/
import Derived.Below
namespace Go.Proofs.YtmpkjlifcdobiaaDoor.Dv
/-- The loop's relation: the estimate is not below the quotient, and the rest is the rest of the estimate. U = un * B + u, y = a * B + c. -/
def DRel (un u a c q r : Int) : Prop := 0 ≤ q ∧ q ≤ 4294967298 ∧ r = un - q * a ∧ 0 ≤ r ∧ r < 4294967296 ∧ (un * 4294967296 + u) / (a * 4294967296 + c) ≤ q
structure DIn (un u a c : Int) : Prop where
  a0 : 2147483648 ≤ a
  a1 : a < 4294967296
  c0 : 0 ≤ c
  c1 : c < 4294967296
  u0 : 0 ≤ u
  u1 : u < 4294967296
  n0 : 0 ≤ un
  n1 : un < a * 4294967296 + c
section
variable {un u a c q r : Int}
theorem DIn.y0 (h : DIn un u a c) : 0 < a * 4294967296 + c := by have := h.a0; have := h.c0; omega
theorem DIn.quo (h : DIn un u a c) : 0 ≤ (un * 4294967296 + u) / (a * 4294967296 + c) ∧ (un * 4294967296 + u) / (a * 4294967296 + c) < 4294967296 := by
  have := h.n0; have := h.n1; have := h.u0; have := h.u1
  constructor
  · exact Int.ediv_nonneg (by omega) (by have := h.y0; omega)
  · exact Int.ediv_lt_of_lt_mul h.y0 (by omega)
/-- q times y in the digits of y -/
theorem qy : q * (a * 4294967296 + c) = q * a * 4294967296 + q * c := by grind
/-- the estimate is too great exactly if the product with the lower digit is greater than the rest -/
theorem over_iff (hr : r = un - q * a) : (un * 4294967296 + u < q * (a * 4294967296 + c)) ↔ r * 4294967296 + u < q * c := by
  rw [qy]; constructor <;> intro h <;> omega
theorem le_quo (h : DIn un u a c) (hq : q * (a * 4294967296 + c) ≤ un * 4294967296 + u) : q ≤ (un * 4294967296 + u) / (a * 4294967296 + c) := (Int.le_ediv_iff_mul_le h.y0).2 hq
theorem quo_lt (h : DIn un u a c) (hq : un * 4294967296 + u < q * (a * 4294967296 + c)) : (un * 4294967296 + u) / (a * 4294967296 + c) < q := Int.ediv_lt_of_lt_mul h.y0 hq
theorem start (h : DIn un u a c) : DRel un u a c (un / a) (un - un / a * a) := by
  have h1 := h.a0; have h2 := h.a1; have h3 := h.c0; have h4 := h.c1; have h5 := h.n0; have h6 := h.n1; have h7 := h.u0; have h8 := h.u1
  have e1 := Int.emod_add_mul_ediv un a
  have e2 := Int.emod_nonneg un (b := a) (by omega)
  have e3 := Int.emod_lt_of_pos un (b := a) (by omega)
  have e4 : a * (un / a) = un / a * a := Int.mul_comm _ _
  have q0 : 0 ≤ un / a := Int.ediv_nonneg h5 (by omega)
  have qb : un / a ≤ 4294967298 := by
    rcases Int.lt_or_le 4294967298 (un / a) with hl | hl
    · have := Int.mul_le_mul_of_nonneg_right (show (4294967299 : Int) ≤ un / a by omega) (show 0 ≤ a by omega)
      omega
    · exact hl
  refine ⟨q0, qb, rfl, by omega, by omega, ?_⟩
  have : (un * 4294967296 + u) / (a * 4294967296 + c) < un / a + 1 := by
    apply Int.ediv_lt_of_lt_mul h.y0
    rw [qy]
    have e5 : (un / a + 1) * a = un / a * a + a := by grind
    have e6 : 0 ≤ (un / a + 1) * c := Int.mul_nonneg (by omega) h3
    omega
  omega
/-- the estimate is lowered, and the loop goes on -/
theorem step (h : DIn un u a c) (hr : DRel un u a c q r) (ho : 4294967296 ≤ q ∨ r * 4294967296 + u < q * c) (hb : r + a < 4294967296) : DRel un u a c (q - 1) (r + a) := by
  obtain ⟨r1, r2, r3, r4, r5, r6⟩ := hr
  have hq := h.quo
  have lt : (un * 4294967296 + u) / (a * 4294967296 + c) < q := by
    rcases ho with ho | ho
    · omega
    · exact quo_lt h ((over_iff r3).2 ho)
  have e : (q - 1) * a = q * a - a := by grind
  have := h.a0
  exact ⟨by omega, by omega, by omega, by omega, hb, by omega⟩
/-- the loop is left because the estimate fits -/
theorem fits (h : DIn un u a c) (hr : DRel un u a c q r) (ho : ¬ r * 4294967296 + u < q * c) : (un * 4294967296 + u) / (a * 4294967296 + c) = q := by
  obtain ⟨r1, r2, r3, r4, r5, r6⟩ := hr
  have := le_quo h (q := q) (by rcases Int.lt_or_le (un * 4294967296 + u) (q * (a * 4294967296 + c)) with hl | hl
                                · exact absurd ((over_iff r3).1 hl) ho
                                · exact hl)
  omega
/-- the loop is left because the rest is too great for a digit -/
theorem breaks (h : DIn un u a c) (hr : DRel un u a c q r) (ho : 4294967296 ≤ q ∨ r * 4294967296 + u < q * c) (hb : 4294967296 ≤ r + a) : (un * 4294967296 + u) / (a * 4294967296 + c) = q - 1 := by
  obtain ⟨r1, r2, r3, r4, r5, r6⟩ := hr
  have hq := h.quo
  have lt : (un * 4294967296 + u) / (a * 4294967296 + c) < q := by
    rcases ho with ho | ho
    · omega
    · exact quo_lt h ((over_iff r3).2 ho)
  have e : (q - 1) * a = q * a - a := by grind
  have hc : (q - 1) * c ≤ 4294967297 * 4294967295 := by
    have := h.c0; have := h.c1
    exact Int.mul_le_mul (by omega) (by omega) h.c0 (by omega)
  have := h.u0
  have := le_quo h (q := q - 1) (by rw [qy]; omega)
  omega
/-- what is left behind a digit -/
theorem left (h : DIn un u a c) : 0 ≤ un * 4294967296 + u - (un * 4294967296 + u) / (a * 4294967296 + c) * (a * 4294967296 + c) ∧ un * 4294967296 + u - (un * 4294967296 + u) / (a * 4294967296 + c) * (a * 4294967296 + c) < a * 4294967296 + c := by
  have e1 := Int.emod_add_mul_ediv (un * 4294967296 + u) (a * 4294967296 + c)
  have e2 := Int.emod_nonneg (un * 4294967296 + u) (b := a * 4294967296 + c) (by have := h.y0; omega)
  have e3 := Int.emod_lt_of_pos (un * 4294967296 + u) h.y0
  have e4 : (a * 4294967296 + c) * ((un * 4294967296 + u) / (a * 4294967296 + c)) = (un * 4294967296 + u) / (a * 4294967296 + c) * (a * 4294967296 + c) := Int.mul_comm _ _
  omega
end
/-- two digits of a quotient, one after the other -/
theorem two_digits {U V y : Int} (hy : 0 < y) :
    (U * 4294967296 + V) / y = U / y * 4294967296 + ((U - U / y * y) * 4294967296 + V) / y ∧ (U * 4294967296 + V) % y = ((U - U / y * y) * 4294967296 + V) % y := by
  have e : U * 4294967296 + V = (U - U / y * y) * 4294967296 + V + U / y * 4294967296 * y := by grind
  constructor
  · rw [e, Int.add_mul_ediv_right _ _ (by omega)]
    have e2 : ((U - U / y * y) * 4294967296 + V + U / y * 4294967296 * y - U / y * y * 0) = (U - U / y * y) * 4294967296 + V + U / y * 4294967296 * y := by grind
    omega
  · conv => lhs; rw [e]
    rw [Int.add_mul_emod_self_right]
end Go.Proofs.YtmpkjlifcdobiaaDoor.Dv
