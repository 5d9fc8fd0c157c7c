/- Plain facts about integer square roots, and about the quotient by a root: no program here. -/
import Derived.Below
namespace Go.Proofs.Ytgdhgeongdenpaa.Rt
theorem mul_mono {a b c d : Int} (h1 : a ≤ b) (h2 : c ≤ d) (ha : 0 ≤ a) (hc : 0 ≤ c) : a * c ≤ b * d :=
  Int.mul_le_mul h1 h2 hc (by omega)
theorem sq_mono {a b : Int} (h : a ≤ b) (ha : 0 ≤ a) : a * a ≤ b * b := mul_mono h h ha ha
theorem sq_lt {a b : Int} (h : a < b) (ha : 0 ≤ a) : a * a < b * b := by
  have := mul_mono (a := a + 1) (b := b) (c := a + 1) (d := b) (by omega) (by omega) (by omega) (by omega)
  have e : (a + 1) * (a + 1) = a * a + 2 * a + 1 := by grind
  omega
theorem of_sq_lt {a b : Int} (h : a * a < b * b) (hb : 0 ≤ b) : a < b := by
  rcases Int.lt_or_le a b with h1 | h1
  · exact h1
  · have := sq_mono h1 hb; omega
theorem of_sq_le {a b : Int} (h : a * a ≤ b * b) (hb : 0 ≤ b) : a ≤ b := by
  rcases Int.lt_or_le b a with h1 | h1
  · have := sq_lt h1 hb; omega
  · exact h1
/-- the root, rounded down, of a number that is not negative -/
def sqF : Nat → Nat → Nat
  | 0, _ => 0
  | f + 1, n => if (sqF f n + 1) * (sqF f n + 1) ≤ n then sqF f n + 1 else sqF f n
theorem sqF_le (f n : Nat) : sqF f n * sqF f n ≤ n := by
  induction f with
  | zero => simp [sqF]
  | succ f ih => unfold sqF; split <;> assumption
theorem sqF_lt (f n : Nat) : (sqF f n + 1) * (sqF f n + 1) ≤ n → sqF f n = f := by
  induction f with
  | zero => intro _; rfl
  | succ f ih =>
    unfold sqF
    split
    · rename_i h; intro _; rw [ih h]
    · rename_i h; intro h2; exact absurd h2 h
theorem sqF_bound (n : Nat) : n < (sqF n n + 1) * (sqF n n + 1) := by
  rcases Nat.lt_or_ge n ((sqF n n + 1) * (sqF n n + 1)) with h | h
  · exact h
  · have e := sqF_lt n n h
    rw [e] at h
    have : n + 1 ≤ (n + 1) * (n + 1) := Nat.le_mul_of_pos_left _ (by omega)
    omega
def isq (n : Int) : Int := (sqF n.toNat n.toNat : Nat)
theorem isq_nonneg (n : Int) : 0 ≤ isq n := by unfold isq; omega
theorem isq_le {n : Int} (h : 0 ≤ n) : isq n * isq n ≤ n := by
  have := sqF_le n.toNat n.toNat
  have h2 : ((sqF n.toNat n.toNat * sqF n.toNat n.toNat : Nat) : Int) ≤ (n.toNat : Nat) := by exact_mod_cast this
  unfold isq
  rw [Int.natCast_mul] at h2
  omega
theorem isq_lt {n : Int} (h : 0 ≤ n) : n < (isq n + 1) * (isq n + 1) := by
  have := sqF_bound n.toNat
  have h2 : ((n.toNat : Nat) : Int) < (((sqF n.toNat n.toNat + 1) * (sqF n.toNat n.toNat + 1) : Nat) : Int) := by exact_mod_cast this
  unfold isq
  rw [Int.natCast_mul] at h2
  simp only [Int.natCast_add, Int.natCast_one] at h2
  omega
theorem isq_uniq {n r : Int} (hr : 0 ≤ r) (h1 : r * r ≤ n) (h2 : n < (r + 1) * (r + 1)) : isq n = r := by
  have hn : 0 ≤ n := by have := Int.mul_nonneg hr hr; omega
  have a1 := isq_le hn
  have a2 := isq_lt hn
  have a0 := isq_nonneg n
  have l1 : isq n < r + 1 := of_sq_lt (by omega) (by omega)
  have l2 : r < isq n + 1 := of_sq_lt (by omega) (by omega)
  omega
theorem isq_mono {a b : Int} (ha : 0 ≤ a) (h : a ≤ b) : isq a ≤ isq b := by
  have a1 := isq_le ha
  have a2 := isq_lt (n := b) (by omega)
  have l : isq a < isq b + 1 := of_sq_lt (by omega) (by have := isq_nonneg b; omega)
  omega
theorem isq_max : isq 4611686018427387904 = 2147483648 := isq_uniq (by decide) (by decide) (by decide)
theorem isq_le_max {n : Int} (h : 0 ≤ n) (h2 : n ≤ 4611686018427387904) : isq n ≤ 2147483648 := by
  have := isq_mono h h2; rw [isq_max] at this; exact this
theorem isq_zero : isq 0 = 0 := isq_uniq (by decide) (by decide) (by decide)
/-- what Floor returns -/
def flo (n : Int) : Int := if n < 0 ∨ 4611686018427387904 < n then 0 else isq n
/-- what Ceil returns -/
def cei (n : Int) : Int := if n < 0 ∨ 4611686018427387904 < n then 0 else if isq n * isq n < n then isq n + 1 else isq n
theorem flo_in {n : Int} (h : 0 ≤ n) (h2 : n ≤ 4611686018427387904) : flo n = isq n := by unfold flo; rw [if_neg (by omega)]
theorem flo_out {n : Int} (h : n < 0 ∨ 4611686018427387904 < n) : flo n = 0 := by unfold flo; rw [if_pos h]
theorem cei_out {n : Int} (h : n < 0 ∨ 4611686018427387904 < n) : cei n = 0 := by unfold cei; rw [if_pos h]
theorem cei_up {n : Int} (h : 0 ≤ n) (h2 : n ≤ 4611686018427387904) (h3 : isq n * isq n < n) : cei n = isq n + 1 := by unfold cei; rw [if_neg (by omega), if_pos h3]
theorem cei_eq {n : Int} (h : 0 ≤ n) (h2 : n ≤ 4611686018427387904) (h3 : ¬ isq n * isq n < n) : cei n = isq n := by unfold cei; rw [if_neg (by omega), if_neg h3]
theorem flo_bd (n : Int) : 0 ≤ flo n ∧ flo n ≤ 2147483648 := by
  unfold flo
  split
  · omega
  · exact ⟨isq_nonneg n, isq_le_max (by omega) (by omega)⟩
theorem flo_sq {n : Int} (h : 0 ≤ n) (h2 : n ≤ 4611686018427387904) : flo n * flo n ≤ n ∧ n < (flo n + 1) * (flo n + 1) := by
  rw [flo_in h h2]; exact ⟨isq_le h, isq_lt h⟩
theorem cei_bd (n : Int) : 0 ≤ cei n ∧ cei n ≤ 2147483648 := by
  rcases Classical.em (n < 0 ∨ 4611686018427387904 < n) with h | h
  · rw [cei_out h]; omega
  · have h0 := isq_nonneg n
    have h3 := isq_le_max (n := n) (by omega) (by omega)
    rcases Classical.em (isq n * isq n < n) with h1 | h1
    · rw [cei_up (by omega) (by omega) h1]
      have : isq n < 2147483648 := of_sq_lt (by omega) (by omega)
      omega
    · rw [cei_eq (by omega) (by omega) h1]; omega
/-- the bits of the loops: 0, and then the powers of two -/
def bitv : Nat → Int
  | 0 => 0
  | k + 1 => 2 ^ k
theorem bitv_half (k : Nat) : bitv (k + 1) / 2 = bitv k := by
  cases k with
  | zero => rfl
  | succ k => simp only [bitv]; rw [Int.pow_succ]; omega
theorem bitv_pos (k : Nat) : 1 ≤ bitv (k + 1) := by
  simp only [bitv]
  exact Int.pow_pos (by decide)
theorem bitv_le {k : Nat} (h : k ≤ 32) : 0 ≤ bitv k ∧ bitv k ≤ 2147483648 := by
  have : k = 0 ∨ ∃ j, k = j + 1 ∧ j ≤ 31 := by
    cases k with
    | zero => exact .inl rfl
    | succ j => exact .inr ⟨j, rfl, by omega⟩
  rcases this with rfl | ⟨j, rfl, hj⟩
  · decide
  · constructor
    · have := bitv_pos j; omega
    · have : (2:Int) ^ j ≤ 2 ^ 31 := by
        have := Nat.pow_le_pow_right (n := 2) (by omega) hj
        exact_mod_cast this
      simpa [bitv] using this
theorem bitv_le' {k : Nat} (h : k ≤ 31) : bitv k ≤ 1073741824 := by
  have h1 := bitv_half k
  have h2 := bitv_le (k := k + 1) (by omega)
  omega
theorem bitv_two (k : Nat) : (2:Int) ^ (k + 1) = 2 * bitv (k + 1) := by simp only [bitv]; rw [Int.pow_succ]; omega
theorem bitv_32 : bitv 32 = 2147483648 := by decide
/-- the relation at the head of the loops: the root so far, and the bit that is tried next -/
def Rel (n r : Int) (k : Nat) : Prop := 0 ≤ r ∧ r ≤ 2147483648 ∧ r * r ≤ n ∧ n < (r + 2 ^ k) * (r + 2 ^ k) ∧ (k = 32 → r = 0) ∧ k ≤ 32
theorem rel_start {n : Int} (h : 0 ≤ n) (h2 : n ≤ 4611686018427387904) : Rel n 0 32 := by
  refine ⟨by decide, by decide, by omega, ?_, fun _ => rfl, by decide⟩
  have : (0 + (2:Int)^32) * (0 + 2^32) = 18446744073709551616 := by decide
  omega
theorem rel_yes {n r : Int} {k : Nat} (h : Rel n r (k + 1)) (hn : n ≤ 4611686018427387904) (hy : (r + bitv (k + 1)) * (r + bitv (k + 1)) ≤ n) : Rel n (r + bitv (k + 1)) k := by
  obtain ⟨h1, h2, h3, h4, h5, h6⟩ := h
  have hb := bitv_pos k
  refine ⟨by omega, ?_, hy, ?_, by omega, by omega⟩
  · exact of_sq_le (by omega) (by decide)
  · rw [bitv_two] at h4
    have e : r + 2 * bitv (k + 1) = r + bitv (k + 1) + 2 ^ k := by simp only [bitv]; omega
    rw [e] at h4; exact h4
theorem rel_no {n r : Int} {k : Nat} (h : Rel n r (k + 1)) (hy : ¬ (r + bitv (k + 1)) * (r + bitv (k + 1)) ≤ n) : Rel n r k := by
  obtain ⟨h1, h2, h3, h4, h5, h6⟩ := h
  refine ⟨h1, h2, h3, by simp only [bitv] at hy; omega, by omega, by omega⟩
theorem rel_end {n r : Int} (h : Rel n r 0) : isq n = r := by
  obtain ⟨h1, h2, h3, h4, h5, h6⟩ := h
  exact isq_uniq h1 h3 (by simpa using h4)
theorem rel_more {n r b : Int} : (2 * r + b) * b ≤ n - r * r ↔ (r + b) * (r + b) ≤ n := by
  constructor <;> intro h <;> grind
theorem rel_next {n x b : Int} : n - x * x - (2 * x + b) * b = n - (x + b) * (x + b) := by grind
theorem rel_bd {n r : Int} {k : Nat} (h : Rel n r (k + 1)) : 0 ≤ (2 * r + bitv (k + 1)) * bitv (k + 1) ∧ (2 * r + bitv (k + 1)) * bitv (k + 1) ≤ 9223372036854775807 := by
  obtain ⟨h1, h2, h3, h4, h5, h6⟩ := h
  have hb := bitv_pos k
  have hl := bitv_le (k := k + 1) (by omega)
  constructor
  · exact Int.mul_nonneg (by omega) (by omega)
  · rcases Nat.lt_or_ge k 31 with hk | hk
    · have hl' := bitv_le' (k := k + 1) (by omega)
      have := mul_mono (a := 2 * r + bitv (k + 1)) (b := 5368709120) (c := bitv (k + 1)) (d := 1073741824) (by omega) hl' (by omega) (by omega)
      omega
    · have : r = 0 := h5 (by omega)
      have := mul_mono (a := 2 * r + bitv (k + 1)) (b := 2147483648) (c := bitv (k + 1)) (d := 2147483648) (by omega) (by omega) (by omega) (by omega)
      omega
/-- what Quotient returns within its limits -/
def quo (t e : Int) : Int :=
  if 0 ≤ t then isq (t * t / e) else if isq (t * t / e) * isq (t * t / e) * e < t * t then -(isq (t * t / e) + 1) else -isq (t * t / e)
def QIn (t e : Int) : Prop := -2147483648 ≤ t ∧ t ≤ 2147483648 ∧ 1 ≤ e ∧ e ≤ 4611686018427387904
theorem sq_bd {t : Int} (h1 : -2147483648 ≤ t) (h2 : t ≤ 2147483648) : 0 ≤ t * t ∧ t * t ≤ 4611686018427387904 := by
  rcases Int.le_total 0 t with h | h
  · exact ⟨Int.mul_nonneg h h, sq_mono h2 h⟩
  · have e : t * t = (-t) * (-t) := by grind
    rw [e]
    exact ⟨Int.mul_nonneg (by omega) (by omega), sq_mono (a := -t) (b := 2147483648) (by omega) (by omega)⟩
theorem div_bd {a e : Int} (h0 : 0 ≤ a) (h1 : a ≤ 4611686018427387904) (he : 1 ≤ e) : 0 ≤ a / e ∧ a / e ≤ 4611686018427387904 := by
  constructor
  · exact Int.ediv_nonneg h0 (by omega)
  · have := Int.ediv_le_self e h0; omega
theorem div_mul {a e : Int} (he : 1 ≤ e) : a / e * e ≤ a ∧ a < a / e * e + e ∧ a % e = a - a / e * e := by
  have h1 := Int.emod_add_mul_ediv a e
  have h2 := Int.emod_nonneg a (b := e) (by omega)
  have h3 := Int.emod_lt_of_pos a (b := e) (by omega)
  have h4 : e * (a / e) = a / e * e := Int.mul_comm _ _
  omega
theorem mul_le {a b e : Int} (h : a ≤ b) (he : 0 ≤ e) : a * e ≤ b * e := Int.mul_le_mul_of_nonneg_right h he
theorem mul_cancel_le {a b e : Int} (h : a * e ≤ b * e) (he : 0 < e) : a ≤ b := Int.le_of_mul_le_mul_right h he
theorem qq_le {t e : Int} (h : QIn t e) : 0 ≤ isq (t * t / e) * isq (t * t / e) * e ∧ isq (t * t / e) * isq (t * t / e) * e ≤ t * t := by
  obtain ⟨h1, h2, h3, h4⟩ := h
  have a := sq_bd h1 h2
  have d := div_bd a.1 a.2 h3
  have m := div_mul (a := t * t) h3
  have q := isq_le d.1
  have q0 := isq_nonneg (t * t / e)
  have q2 := Int.mul_nonneg q0 q0
  have l := mul_le (e := e) q (by omega)
  exact ⟨Int.mul_nonneg q2 (by omega), by omega⟩
theorem quo_pos {t e : Int} (h : 0 ≤ t) : quo t e = isq (t * t / e) := by unfold quo; rw [if_pos h]
theorem quo_up {t e : Int} (h : t < 0) (h2 : isq (t * t / e) * isq (t * t / e) * e < t * t) : quo t e = -(isq (t * t / e) + 1) := by unfold quo; rw [if_neg (by omega), if_pos h2]
theorem quo_eq {t e : Int} (h : t < 0) (h2 : ¬ isq (t * t / e) * isq (t * t / e) * e < t * t) : quo t e = -isq (t * t / e) := by unfold quo; rw [if_neg (by omega), if_neg h2]
theorem quo_cei0 {t e : Int} (h : QIn t e) (ht : t < 0) (hm : t * t % e = 0) : -cei (t * t / e) = quo t e := by
  obtain ⟨h1, h2, h3, h4⟩ := id h
  have a := sq_bd h1 h2
  have d := div_bd a.1 a.2 h3
  have m := div_mul (a := t * t) h3
  have q := isq_le d.1
  rcases Classical.em (isq (t * t / e) * isq (t * t / e) < t * t / e) with g | g
  · have l := mul_le (a := isq (t * t / e) * isq (t * t / e) + 1) (b := t * t / e) (e := e) (by omega) (by omega)
    have l2 : (isq (t * t / e) * isq (t * t / e) + 1) * e = isq (t * t / e) * isq (t * t / e) * e + e := by grind
    rw [cei_up d.1 d.2 g, quo_up ht (by omega)]
  · have e1 : isq (t * t / e) * isq (t * t / e) = t * t / e := by omega
    rw [cei_eq d.1 d.2 g, quo_eq ht (by rw [e1]; omega)]
theorem quo_cei1 {t e : Int} (h : QIn t e) (ht : t < 0) (hm : t * t % e ≠ 0) : -cei (t * t / e + 1) = quo t e ∧ t * t / e + 1 ≤ 4611686018427387904 := by
  obtain ⟨h1, h2, h3, h4⟩ := id h
  have a := sq_bd h1 h2
  have d := div_bd a.1 a.2 h3
  have m := div_mul (a := t * t) h3
  have q := isq_le d.1
  have q1 := isq_lt d.1
  have q0 := isq_nonneg (t * t / e)
  have l := mul_le (e := e) q (by omega)
  have hbd : t * t / e + 1 ≤ 4611686018427387904 := by
    rcases Classical.em (e = 1) with he | he
    · subst he; simp at hm
    · have := Int.ediv_lt_self_of_pos_of_ne_one (x := t * t) (y := e)
      rcases Int.lt_or_le (t * t / e) (t * t) with hl | hl
      · omega
      · have := mul_le (a := 2) (b := e) (e := t * t / e) (by omega) d.1
        have e5 : e * (t * t / e) = t * t / e * e := Int.mul_comm _ _
        have : t * t / e = 0 := by omega
        omega
  refine ⟨?_, hbd⟩
  rw [quo_up ht (by omega)]
  rcases Classical.em ((isq (t * t / e) + 1) * (isq (t * t / e) + 1) = t * t / e + 1) with g | g
  · have u : isq (t * t / e + 1) = isq (t * t / e) + 1 := isq_uniq (by omega) (by omega) (by
      have := sq_lt (a := isq (t * t / e) + 1) (b := isq (t * t / e) + 1 + 1) (by omega) (by omega); omega)
    rw [cei_eq (by omega) hbd (by rw [u]; omega), u]
  · have u : isq (t * t / e + 1) = isq (t * t / e) := isq_uniq q0 (by omega) (by omega)
    rw [cei_up (by omega) hbd (by rw [u]; omega), u]
theorem cei_mono {a b : Int} (ha : 0 ≤ a) (h : a ≤ b) (hb : b ≤ 4611686018427387904) : cei a ≤ cei b := by
  have m1 := isq_mono ha h
  have a1 := isq_le ha
  have b1 := isq_le (n := b) (by omega)
  have b2 := isq_lt (n := b) (by omega)
  rcases Classical.em (isq a * isq a < a) with g | g
  · rw [cei_up ha (by omega) g]
    rcases Classical.em (isq b * isq b < b) with k | k
    · rw [cei_up (by omega) hb k]; omega
    · rw [cei_eq (by omega) hb k]
      have : isq a < isq b := of_sq_lt (by omega) (isq_nonneg b)
      omega
  · rw [cei_eq ha (by omega) g]
    rcases Classical.em (isq b * isq b < b) with k | k
    · rw [cei_up (by omega) hb k]; omega
    · rw [cei_eq (by omega) hb k]; omega
theorem flo_mono {a b : Int} (ha : 0 ≤ a) (h : a ≤ b) (hb : b ≤ 4611686018427387904) : flo a ≤ flo b := by
  rw [flo_in ha (by omega), flo_in (by omega) hb]; exact isq_mono ha h
theorem div_mono {a b e : Int} (h : a ≤ b) (he : 1 ≤ e) : a / e ≤ b / e := Int.ediv_le_ediv (by omega) h
theorem div_anti {a d e : Int} (ha : 0 ≤ a) (hd : 1 ≤ d) (h : d ≤ e) : a / e ≤ a / d := by
  have m := div_mul (a := a) (e := e) (by omega)
  have p : 0 ≤ a / e := Int.ediv_nonneg ha (by omega)
  have l : a / e * d ≤ a / e * e := Int.mul_le_mul_of_nonneg_left h p
  exact (Int.le_ediv_iff_mul_le (by omega)).2 (by omega)
theorem up_ge {t e : Int} (h : QIn t e) (ht : t < 0) : quo t e ≤ 0 ∧ t * t ≤ -quo t e * -quo t e * e := by
  obtain ⟨h1, h2, h3, h4⟩ := id h
  have a := sq_bd h1 h2
  have d := div_bd a.1 a.2 h3
  have m := div_mul (a := t * t) h3
  have q1 := isq_lt d.1
  have q0 := isq_nonneg (t * t / e)
  rcases Classical.em (isq (t * t / e) * isq (t * t / e) * e < t * t) with g | g
  · rw [quo_up ht g, Int.neg_neg]
    have l := mul_le (a := t * t / e + 1) (b := (isq (t * t / e) + 1) * (isq (t * t / e) + 1)) (e := e) (by omega) (by omega)
    have l2 : (t * t / e + 1) * e = t * t / e * e + e := by grind
    omega
  · rw [quo_eq ht g, Int.neg_neg]; omega
theorem up_least {t e d : Int} (h : QIn t e) (ht : t < 0) (hd : 0 ≤ d) (hh : t * t ≤ d * d * e) : -quo t e ≤ d := by
  obtain ⟨h1, h2, h3, h4⟩ := id h
  have q0 := isq_nonneg (t * t / e)
  rcases Int.lt_or_le d (-quo t e) with hl | hl
  · exfalso
    rcases Classical.em (isq (t * t / e) * isq (t * t / e) * e < t * t) with g | g
    · rw [quo_up ht g] at hl
      have := mul_le (e := e) (sq_mono (a := d) (b := isq (t * t / e)) (by omega) hd) (by omega)
      omega
    · rw [quo_eq ht g] at hl
      have s := sq_lt (a := d) (b := isq (t * t / e)) (by omega) hd
      have l := mul_le (a := d * d + 1) (b := isq (t * t / e) * isq (t * t / e)) (e := e) (by omega) (by omega)
      have l2 : (d * d + 1) * e = d * d * e + e := by grind
      have q := (qq_le h).2
      omega
  · exact hl
theorem quo_nonneg {t e : Int} (h : 0 ≤ t) : 0 ≤ quo t e := by rw [quo_pos h]; exact isq_nonneg _
theorem quo_mono {t s e : Int} (h1 : QIn t e) (h2 : QIn s e) (h : t ≤ s) : quo t e ≤ quo s e := by
  obtain ⟨a1, a2, a3, a4⟩ := id h1
  rcases Int.lt_or_le t 0 with ht | ht
  · have u := up_ge h1 ht
    rcases Int.lt_or_le s 0 with hs | hs
    · have e1 : s * s ≤ t * t := by
        have := sq_mono (a := -s) (b := -t) (by omega) (by omega)
        have e1 : -s * -s = s * s := by grind
        have e2 : -t * -t = t * t := by grind
        omega
      have := up_least (d := -quo t e) h2 hs (by omega) (by omega)
      omega
    · have := quo_nonneg (e := e) hs; omega
  · rw [quo_pos ht, quo_pos (by omega)]
    have := sq_bd a1 a2
    exact isq_mono (div_bd this.1 this.2 a3).1 (div_mono (sq_mono h ht) a3)
theorem quo_anti {t d e : Int} (ht : 0 ≤ t) (h1 : QIn t d) (h : d ≤ e) (h2 : QIn t e) : quo t e ≤ quo t d := by
  obtain ⟨a1, a2, a3, a4⟩ := id h1
  obtain ⟨b1, b2, b3, b4⟩ := id h2
  rw [quo_pos ht, quo_pos ht]
  have s := sq_bd a1 a2
  exact isq_mono (div_bd s.1 s.2 b3).1 (div_anti s.1 a3 h)
theorem quo_scale {t e f : Int} (hf : 1 ≤ f) : quo (t * f) (e * f * f) = quo t e := by
  have ff : 0 < f * f := Int.mul_pos (by omega) (by omega)
  have e1 : t * f * (t * f) = f * f * (t * t) := by grind
  have e2 : e * f * f = f * f * e := by grind
  have e3 : t * f * (t * f) / (e * f * f) = t * t / e := by rw [e1, e2]; exact Int.mul_ediv_mul_of_pos _ _ ff
  unfold quo
  rw [e3]
  have c1 : (0 ≤ t * f) = (0 ≤ t) := by
    apply propext
    constructor
    · intro h
      rcases Int.lt_or_le t 0 with h1 | h1
      · have := Int.mul_lt_mul_of_pos_right h1 (show (0:Int) < f by omega); simp at this; omega
      · exact h1
    · intro h; exact Int.mul_nonneg h (by omega)
  have c2 : (isq (t * t / e) * isq (t * t / e) * (e * f * f) < t * f * (t * f)) = (isq (t * t / e) * isq (t * t / e) * e < t * t) := by
    have e4 : isq (t * t / e) * isq (t * t / e) * (e * f * f) = f * f * (isq (t * t / e) * isq (t * t / e) * e) := by grind
    rw [e1, e4]
    exact propext (Int.mul_lt_mul_left ff)
  simp only [c1, c2]
end Go.Proofs.Ytgdhgeongdenpaa.Rt
