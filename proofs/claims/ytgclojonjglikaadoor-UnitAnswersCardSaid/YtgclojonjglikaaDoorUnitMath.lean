/- Plain facts about rounding (layer 4): no program here. -/
import Derived.Below
namespace Go.Proofs.YtgclojonjglikaaDoor.Un
set_option linter.unusedVariables false
/-- Go's quotient and rest against the rounded-down ones -/
theorem fl_parts (a b : Int) (hb : 1 ≤ b) : (a.tmod b < 0 → a.tdiv b - 1 = a / b) ∧ (0 ≤ a.tmod b → a.tdiv b = a / b) ∧ -b < a.tmod b ∧ a.tmod b < b := by
  have e := Int.mul_tdiv_add_tmod a b
  have h1 : a.tmod b < b := Int.tmod_lt_of_pos a (by omega)
  have h2 : -b < a.tmod b := by
    rcases Int.lt_or_le a 0 with h | h
    · have := Int.neg_tmod (a := -a) (b := b)
      rw [Int.neg_neg] at this
      have k := Int.tmod_lt_of_pos (-a) (b := b) (by omega)
      omega
    · have := Int.tmod_nonneg b h
      omega
  generalize a.tdiv b = t at *
  generalize a.tmod b = m at *
  subst e
  refine ⟨fun h => ?_, fun h => ?_, h2, h1⟩
  · have : b * t + m = (b + m) + b * (t - 1) := by grind
    rw [this, Int.add_mul_ediv_left _ _ (by omega), Int.ediv_eq_zero_of_lt (by omega) (by omega)]
    omega
  · rw [Int.add_comm, Int.add_mul_ediv_left _ _ (by omega), Int.ediv_eq_zero_of_lt h h1]
    omega
theorem td_bound (a b M : Int) (hb : 1 ≤ b) (h0 : -M ≤ a) (h1 : a ≤ M) : -M ≤ a.tdiv b ∧ a.tdiv b ≤ M := by
  have e := Int.mul_tdiv_add_tmod a b
  have hs := fl_parts a b hb
  have hm : (0 ≤ a → 0 ≤ a.tmod b) ∧ (a < 0 → a.tmod b ≤ 0) := by
    constructor
    · intro h; exact Int.tmod_nonneg b h
    · intro h
      have := Int.neg_tmod (a := -a) (b := b)
      rw [Int.neg_neg] at this
      have k := Int.tmod_nonneg b (show 0 ≤ -a by omega)
      omega
  generalize a.tdiv b = t at *
  generalize a.tmod b = m at *
  have hbt : (0 ≤ t → t ≤ b * t) ∧ (t ≤ 0 → b * t ≤ t) := by
    constructor
    · intro h; have := Int.mul_le_mul_of_nonneg_right hb h; omega
    · intro h; have := Int.mul_le_mul_of_nonneg_right hb (show 0 ≤ -t by omega); have e2 : b * -t = -(b * t) := by grind
      omega
  rcases Int.lt_or_le t 0 with ht | ht
  · have := hbt.2 (by omega)
    rcases Int.lt_or_le a 0 with ha | ha
    · have := hm.2 ha
      have := hs.2.2
      constructor
      · rcases Int.lt_or_le t (-M) with hx | hx
        · have hq : b * t ≤ b * (-M - 1) := Int.mul_le_mul_of_nonneg_left (by omega) (by omega)
          have hq2 : b * (-M - 1) = -(b * M) - b := by grind
          have hq3 : M ≤ b * M := by have := Int.mul_le_mul_of_nonneg_right hb (show 0 ≤ M by omega); omega
          omega
        · exact hx
      · omega
    · have := hm.1 ha
      have := hs.2.2
      have hq : b * t ≤ b * (-1) := Int.mul_le_mul_of_nonneg_left (by omega) (by omega)
      omega
  · have := hbt.1 ht
    rcases Int.lt_or_le a 0 with ha | ha
    · have := hm.2 ha
      have := hs.2.2
      rcases Int.lt_or_le 0 t with hx | hx
      · have hq : b * 1 ≤ b * t := Int.mul_le_mul_of_nonneg_left (by omega) (by omega)
        omega
      · omega
    · have := hm.1 ha
      omega
/-- a quotient rounded to the nearest integer, halves up -/
def hup (a b : Int) : Int := (2 * a + b) / (2 * b)
theorem hup_in (a b : Int) (hb : 1 ≤ b) : -b ≤ 2 * (a - hup a b * b) ∧ 2 * (a - hup a b * b) < b := by
  unfold hup
  have e := Int.emod_add_mul_ediv (2 * a + b) (2 * b)
  have h0 := Int.emod_nonneg (2 * a + b) (b := 2 * b) (by omega)
  have h1 := Int.emod_lt_of_pos (2 * a + b) (b := 2 * b) (by omega)
  generalize (2 * a + b) / (2 * b) = q at *
  have e2 : 2 * b * q = 2 * (q * b) := by grind
  omega
theorem hup_of (a b q : Int) (hb : 1 ≤ b) (h0 : -b ≤ 2 * (a - q * b)) (h1 : 2 * (a - q * b) < b) : hup a b = q := by
  unfold hup
  have e : 2 * a + b = (2 * (a - q * b) + b) + 2 * b * q := by grind
  rw [e, Int.add_mul_ediv_left _ _ (by omega), Int.ediv_eq_zero_of_lt (by omega) (by omega)]
  omega
theorem hup_scale (a b k : Int) (hb : 1 ≤ b) (hk : 1 ≤ k) : hup (a * k) (b * k) = hup a b := by
  unfold hup
  have e1 : 2 * (a * k) + b * k = (2 * a + b) * k := by grind
  have e2 : 2 * (b * k) = 2 * b * k := by grind
  rw [e1, e2, Int.mul_ediv_mul_of_pos_left _ _ (by omega)]
theorem hup_mono (a c b : Int) (hb : 1 ≤ b) (h : a ≤ c) : hup a b ≤ hup c b := by
  unfold hup
  exact Int.ediv_le_ediv (by omega) (by omega)
theorem hup_ge (a b s : Int) (hb : 1 ≤ b) : (s ≤ hup a b) ↔ (2 * s - 1) * b ≤ 2 * a := by
  unfold hup
  rw [Int.le_ediv_iff_mul_le (by omega)]
  have : s * (2 * b) = (2 * s - 1) * b + b := by grind
  omega
end Go.Proofs.YtgclojonjglikaaDoor.Un
