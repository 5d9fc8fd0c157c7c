/- Plain facts about numbers packed into bits: no program here. -/
import Derived.Below
namespace Go.Proofs.Ytaplbkfmedofcaa.Pk
set_option linter.unusedVariables false
/-- byte j of the bits f ahead of place K -/
def pkb (f : Nat → Nat) (K j : Nat) : Nat → Nat
  | 0 => 0
  | t + 1 => pkb f K j t + (if 8 * j + t < K then f (8 * j + t) else 0) * 2 ^ t
def pk (f : Nat → Nat) (K j : Nat) : Nat := pkb f K j 8
theorem pkb_lt {f : Nat → Nat} (hf : ∀ k, f k < 2) (K j : Nat) : ∀ t, pkb f K j t < 2 ^ t
  | 0 => by simp [pkb]
  | t + 1 => by
    have ih := pkb_lt hf K j t
    have : (if 8 * j + t < K then f (8 * j + t) else 0) * 2 ^ t ≤ 1 * 2 ^ t := Nat.mul_le_mul_right _ (by split; have := hf (8 * j + t); omega; omega)
    rw [pkb, Nat.pow_succ]
    omega
theorem pk_lt {f : Nat → Nat} (hf : ∀ k, f k < 2) (K j : Nat) : pk f K j < 256 := pkb_lt hf K j 8
/-- places from t on that are not ahead of K count nothing -/
theorem pkb_stop {f : Nat → Nat} (K j : Nat) : ∀ (t : Nat), K ≤ 8 * j + t → ∀ d, pkb f K j (t + d) = pkb f K j t
  | t, h, 0 => rfl
  | t, h, d + 1 => by rw [← Nat.add_assoc, pkb, pkb_stop K j t h d, if_neg (by omega)]; simp
theorem pkb_same {f : Nat → Nat} (K j : Nat) : ∀ (t : Nat), 8 * j + t ≤ K → pkb f (K + 1) j t = pkb f K j t
  | 0, _ => rfl
  | t + 1, h => by rw [pkb, pkb, pkb_same K j t (by omega), if_pos (by omega), if_pos (by omega)]
/-- one more bit: its own byte grows, the others stay -/
theorem pk_step {f : Nat → Nat} (hf : ∀ k, f k < 2) (K : Nat) : pk f (K + 1) (K / 8) = pk f K (K / 8) + f K * 2 ^ (K % 8) ∧ pk f K (K / 8) < 2 ^ (K % 8) := by
  obtain ⟨j, t, hK, ht⟩ : ∃ j t, K = 8 * j + t ∧ t < 8 := ⟨K / 8, K % 8, by omega, by omega⟩
  have e1 : K / 8 = j := by omega
  have e2 : K % 8 = t := by omega
  rw [e1, e2]
  have a1 : pk f K j = pkb f K j t := by
    have := pkb_stop (f := f) K j t (by omega) (8 - t)
    rwa [show t + (8 - t) = 8 by omega] at this
  have a2 : pk f (K + 1) j = pkb f (K + 1) j (t + 1) := by
    have := pkb_stop (f := f) (K + 1) j (t + 1) (by omega) (8 - (t + 1))
    rwa [show t + 1 + (8 - (t + 1)) = 8 by omega] at this
  have a3 : pkb f (K + 1) j (t + 1) = pkb f K j t + f K * 2 ^ t := by
    rw [pkb, pkb_same K j t (by omega), if_pos (by omega), hK]
  exact ⟨by rw [a2, a3, a1], by rw [a1]; exact pkb_lt hf K j t⟩
theorem pkb_else {f : Nat → Nat} (K j : Nat) (h : j ≠ K / 8) : ∀ t, t ≤ 8 → pkb f (K + 1) j t = pkb f K j t
  | 0, _ => rfl
  | t + 1, ht => by
    rw [pkb, pkb, pkb_else K j h t (by omega)]
    congr 2
    have : (8 * j + t < K + 1) = (8 * j + t < K) := by
      apply propext
      constructor <;> intro _ <;> omega
    simp only [this]
theorem pk_else {f : Nat → Nat} (K j : Nat) (h : j ≠ K / 8) : pk f (K + 1) j = pk f K j := pkb_else K j h 8 (by omega)
theorem pk_zero (f : Nat → Nat) (j : Nat) : pk f 0 j = 0 := by simp [pk, pkb]
/-- the bits of a byte -/
theorem pkb_bit {f : Nat → Nat} (hf : ∀ k, f k < 2) (K j : Nat) : ∀ (t s : Nat), s < t → pkb f K j t / 2 ^ s % 2 = if 8 * j + s < K then f (8 * j + s) else 0
  | 0, s, h => by omega
  | t + 1, s, h => by
    rw [pkb]
    rcases Nat.lt_or_ge s t with h1 | h1
    · have ih := pkb_bit hf K j t s h1
      have e : (2 : Nat) ^ t = 2 ^ s * (2 * 2 ^ (t - s - 1)) := by
        rw [← Nat.pow_succ', ← Nat.pow_add]; congr 1; omega
      rw [e, show ∀ x : Nat, x * (2 ^ s * (2 * 2 ^ (t - s - 1))) = 2 ^ s * (2 * (x * 2 ^ (t - s - 1))) from fun x => by grind, Nat.add_mul_div_left _ _ (Nat.two_pow_pos s), Nat.add_mul_mod_self_left]
      exact ih
    · obtain rfl : s = t := by omega
      have hl := pkb_lt hf K j s
      rw [Nat.add_mul_div_right _ _ (Nat.two_pow_pos s), Nat.div_eq_of_lt hl, Nat.zero_add]
      have : (if 8 * j + s < K then f (8 * j + s) else 0) < 2 := by split; exact hf _; omega
      omega
theorem pk_bit {f : Nat → Nat} (hf : ∀ k, f k < 2) (K k : Nat) : pk f K (k / 8) / 2 ^ (k % 8) % 2 = if k < K then f k else 0 := by
  have := pkb_bit hf K (k / 8) 8 (k % 8) (by omega)
  rw [show 8 * (k / 8) + k % 8 = k by omega] at this
  exact this
/-- the bits of a list of numbers of a width -/
def fb (L : List Nat) (w k : Nat) : Nat := L.getD (k / w) 0 / 2 ^ (k % w) % 2
theorem fb_lt (L : List Nat) (w k : Nat) : fb L w k < 2 := Nat.mod_lt _ (by decide)
theorem fb_at {w j : Nat} (L : List Nat) (i : Nat) (hj : j < w) : fb L w (i * w + j) = L.getD i 0 / 2 ^ j % 2 := by
  unfold fb
  rw [show i * w + j = j + i * w by omega, Nat.add_mul_div_right _ _ (by omega), Nat.div_eq_of_lt hj, Nat.zero_add, Nat.add_mul_mod_self_right, Nat.mod_eq_of_lt hj]
/-- the bytes of a list packed as far as bit K -/
def bytesK (L : List Nat) (w n K : Nat) : List Nat := (List.range n).map (pk (fb L w) K)
def packed (L : List Nat) (w : Nat) : List Nat := bytesK L w ((L.length * w + 7) / 8) (L.length * w)
theorem bytesK_len (L : List Nat) (w n K : Nat) : (bytesK L w n K).length = n := by simp [bytesK]
theorem bytesK_at {L : List Nat} {w n K j : Nat} (h : j < n) : (bytesK L w n K).getD j 0 = pk (fb L w) K j := by simp [bytesK, List.getD_eq_getElem?_getD, h]
theorem bytesK_lt (L : List Nat) (w n K : Nat) : ∀ c ∈ bytesK L w n K, c < 256 := by
  intro c hc
  simp only [bytesK, List.mem_map] at hc
  obtain ⟨j, _, rfl⟩ := hc
  exact pk_lt (fb_lt L w) K j
theorem bytesK_step {L : List Nat} {w n K : Nat} (h : K / 8 < n) : (bytesK L w n K).set (K / 8) (pk (fb L w) K (K / 8) + fb L w K * 2 ^ (K % 8)) = bytesK L w n (K + 1) := by
  apply List.ext_getElem?
  intro i
  rw [List.getElem?_set, bytesK_len]
  rcases Classical.em (K / 8 = i) with hi | hi
  · subst hi
    simp [bytesK, h, (pk_step (fb_lt L w) K).1]
  · rw [if_neg hi]
    rcases Nat.lt_or_ge i n with hn | hn
    · simp [bytesK, hn, pk_else K i (fun e => hi e.symm)]
    · simp [bytesK, Nat.not_lt.2 hn]
theorem bytesK_zero (L : List Nat) (w n : Nat) : bytesK L w n 0 = List.replicate n 0 := by
  apply List.ext_getElem?
  intro i
  rcases Nat.lt_or_ge i n with hn | hn
  · simp [bytesK, hn, pk_zero]
  · simp [bytesK, Nat.not_lt.2 hn]
/-- the sum of the first t bits from place s on -/
def val (g : Nat → Nat) : Nat → Nat
  | 0 => 0
  | t + 1 => val g t + g t * 2 ^ t
theorem val_lt {g : Nat → Nat} (hg : ∀ k, g k < 2) : ∀ t, val g t < 2 ^ t
  | 0 => by simp [val]
  | t + 1 => by
    have ih := val_lt hg t
    have : g t * 2 ^ t ≤ 1 * 2 ^ t := Nat.mul_le_mul_right _ (by have := hg t; omega)
    rw [val, Nat.pow_succ]
    omega
theorem val_bits (n : Nat) : ∀ t, val (fun j => n / 2 ^ j % 2) t = n % 2 ^ t
  | 0 => by simp [val, Nat.mod_one]
  | t + 1 => by
    rw [val, val_bits n t, Nat.pow_succ, Nat.mod_mul]
    rw [Nat.mul_comm]
theorem val_full {n t : Nat} (h : n < 2 ^ t) : val (fun j => n / 2 ^ j % 2) t = n := by rw [val_bits, Nat.mod_eq_of_lt h]
theorem val_congr {g h : Nat → Nat} : ∀ t, (∀ j, j < t → g j = h j) → val g t = val h t
  | 0, _ => rfl
  | t + 1, e => by rw [val, val, val_congr t (fun j hj => e j (by omega)), e t (by omega)]
end Go.Proofs.Ytaplbkfmedofcaa.Pk
