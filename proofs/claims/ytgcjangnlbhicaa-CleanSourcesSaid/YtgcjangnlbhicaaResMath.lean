/- Numbers of layer 8: readings as pairs, the value at a time, and what the laws ask of it; no program is named. -/
import Derived.IntWalk
namespace Go.Proofs.Ytgcjangnlbhicaa.Rm
set_option linter.unusedVariables false
abbrev Rp := Int × Int
/-- time and value of the i-th reading -/
def tm (l : List Rp) (i : Nat) : Int := (l.getD i (0, 0)).1
def vl (l : List Rp) (i : Nat) : Int := (l.getD i (0, 0)).2
def far : Int := 1099511627777
/-- how many readings at the front have a time before t -/
def lb : List Rp → Int → Nat
  | [], _ => 0
  | p :: l, t => if p.1 < t then lb l t + 1 else 0
theorem lb_eq (l : List Rp) (t : Int) (i : Nat) (h1 : ∀ j, j < i → tm l j < t) (h2 : i ≤ l.length) (h3 : i < l.length → t ≤ tm l i) : lb l t = i := by
  induction l generalizing i with
  | nil => simp at h2; subst h2; rfl
  | cons p l ih =>
    unfold lb
    rcases i with _ | i
    · have := h3 (by simp)
      simp [tm] at this
      rw [if_neg (by omega)]
    · have h0 := h1 0 (by omega)
      simp [tm] at h0
      rw [if_pos h0, ih i (fun j hj => by have := h1 (j + 1) (by omega); simpa [tm] using this) (by simpa using h2) (fun hi => by have := h3 (by simpa using hi); simpa [tm] using this)]
theorem lb_le (l : List Rp) (t : Int) : lb l t ≤ l.length := by
  induction l with
  | nil => simp [lb]
  | cons p l ih => unfold lb; split <;> simp; exact ih
theorem lb_lt (l : List Rp) (t : Int) : ∀ j, j < lb l t → tm l j < t := by
  induction l with
  | nil => intro j hj; simp [lb] at hj
  | cons p l ih =>
    intro j hj
    unfold lb at hj
    split at hj
    · rename_i h
      rcases j with _ | j
      · simpa [tm] using h
      · have := ih j (by omega)
        simpa [tm] using this
    · omega
theorem lb_ge (l : List Rp) (t : Int) (h : lb l t < l.length) : t ≤ tm l (lb l t) := by
  induction l with
  | nil => simp at h
  | cons p l ih =>
    unfold lb at h ⊢
    split
    · rename_i h2
      rw [if_pos h2] at h
      have := ih (by simpa using h)
      simpa [tm] using this
    · rename_i h2
      simp [tm]
      omega
/-- readings of the reader's make: times ascend -/
def Asc (l : List Rp) : Prop := (∀ i, i < l.length → 0 ≤ tm l i ∧ tm l i ≤ 1099511627776 ∧ -1000 ≤ vl l i ∧ vl l i ≤ 1000) ∧ (∀ i, i + 1 < l.length → tm l i < tm l (i + 1))
theorem Asc.lt {l : List Rp} (h : Asc l) {i j : Nat} (hij : i < j) (hj : j < l.length) : tm l i < tm l j := by
  induction j with
  | zero => omega
  | succ j ih =>
    have := h.2 j hj
    rcases Nat.lt_or_ge i j with h2 | h2
    · have := ih h2 (by omega); omega
    · obtain rfl : i = j := by omega
      exact this
theorem Asc.ge {l : List Rp} (h : Asc l) (t : Int) {j : Nat} (hj : lb l t ≤ j) (hl : j < l.length) : t ≤ tm l j := by
  have := lb_ge l t (by omega)
  rcases Nat.lt_or_ge (lb l t) j with h2 | h2
  · have := h.lt h2 hl; omega
  · rw [show j = lb l t by omega]; exact this
def flr (a b : Int) : Int := a / b
/-- the nearest integer, halves up -/
def hup (a b : Int) : Int := (2 * a + b) / (2 * b)
def bck (l : List Rp) (t : Int) : Int := if 0 < lb l t then t - tm l (lb l t - 1) else far
def ahd (l : List Rp) (t : Int) : Int := if lb l t < l.length then tm l (lb l t) - t else far
def bv (l : List Rp) (t : Int) : Int := if 0 < lb l t then vl l (lb l t - 1) else 0
def av (l : List Rp) (t : Int) : Int := if lb l t < l.length then vl l (lb l t) else 0
/-- the value at a time -/
def val (l : List Rp) (rule reach t : Int) : Int × Bool :=
  if lb l t < l.length ∧ tm l (lb l t) = t then (vl l (lb l t), true)
  else if rule = 1 then (if bck l t ≤ reach then (bv l t, true) else (0, false))
  else if rule = 2 then (if bck l t ≤ ahd l t ∧ bck l t ≤ reach then (bv l t, true) else if ahd l t < bck l t ∧ ahd l t ≤ reach then (av l t, true) else (0, false))
  else if rule = 3 then (if bck l t ≤ reach ∧ ahd l t ≤ reach then (hup (bv l t * ahd l t + av l t * bck l t) (bck l t + ahd l t), true) else (0, false))
  else (0, false)
theorem bck_in {l : List Rp} (h : Asc l) {t : Int} (h0 : 0 ≤ t) (h1 : t ≤ 1099511627776) : 1 ≤ bck l t ∧ bck l t ≤ 1099511627777 := by
  unfold bck far
  have := lb_le l t
  split
  · rename_i h2
    have a := lb_lt l t (lb l t - 1) (by omega)
    have b := h.1 (lb l t - 1) (by omega)
    omega
  · omega
theorem ahd_in {l : List Rp} (h : Asc l) {t : Int} (h0 : 0 ≤ t) (h1 : t ≤ 1099511627776) : 0 ≤ ahd l t ∧ ahd l t ≤ 1099511627777 := by
  unfold ahd far
  split
  · rename_i h2
    have a := lb_ge l t h2
    have b := h.1 (lb l t) h2
    omega
  · omega
/-- a reading at this very time -/
theorem lb_at {l : List Rp} (h : Asc l) {i : Nat} (hi : i < l.length) : lb l (tm l i) = i :=
  lb_eq l _ i (fun j hj => h.lt hj hi) (by omega) (fun _ => Int.le_refl _)
theorem val_at {l : List Rp} (h : Asc l) {i : Nat} (hi : i < l.length) (rule reach : Int) : val l rule reach (tm l i) = (vl l i, true) := by
  unfold val
  rw [lb_at h hi, if_pos ⟨hi, rfl⟩]
/-- a greater reach changes no value that is there -/
theorem val_reach (l : List Rp) (rule r r' t : Int) (hr : r ≤ r') (h : (val l rule r t).2 = true) : val l rule r' t = val l rule r t := by
  unfold val at h ⊢
  split
  · rfl
  · rename_i h0
    rw [if_neg h0] at h
    split
    · rename_i h1
      rw [if_pos h1] at h
      split at h
      · rename_i h2
        rw [if_pos (by omega), if_pos h2]
      · cases h
    · rename_i h1
      rw [if_neg h1] at h
      split
      · rename_i h1
        rw [if_pos h1] at h
        split at h
        · rename_i h2
          rw [if_pos (by omega), if_pos h2]
        · rename_i h2
          split at h
          · rename_i h3
            rw [if_neg (by omega), if_pos (by omega), if_neg h2, if_pos h3]
          · cases h
      · rename_i h1
        rw [if_neg h1] at h
        split
        · rename_i h1
          rw [if_pos h1] at h
          split at h
          · rename_i h2
            rw [if_pos (by omega), if_pos h2]
          · cases h
        · rfl
/-- Hold: a reading at most so far back -/
theorem val_hold {l : List Rp} (h : Asc l) {t : Int} (h0 : 0 ≤ t) (h1 : t ≤ 1099511627776) {r : Int} (r0 : 0 ≤ r) (r1 : r ≤ 1000) : (val l 1 r t).2 = true ↔ ∃ i, i < l.length ∧ 0 ≤ t - tm l i ∧ t - tm l i ≤ r := by
  have hle := lb_le l t
  unfold val
  split
  · rename_i h2
    exact ⟨fun _ => ⟨lb l t, h2.1, by omega⟩, fun _ => rfl⟩
  · rename_i h2
    rw [if_pos rfl]
    constructor
    · intro h3
      split at h3
      · rename_i h4
        unfold bck far at h4
        split at h4
        · have := lb_lt l t (lb l t - 1) (by omega)
          exact ⟨lb l t - 1, by omega, by omega, h4⟩
        · omega
      · cases h3
    · rintro ⟨i, hi, a, b⟩
      have hil : i < lb l t := by
        rcases Nat.lt_or_ge i (lb l t) with h3 | h3
        · exact h3
        · have e := h.ge t h3 hi
          have := lb_at h hi
          rw [show tm l i = t by omega] at this
          exact absurd ⟨by omega, by rw [this]; omega⟩ h2
      have : bck l t ≤ r := by
        unfold bck
        rw [if_pos (by omega)]
        rcases Nat.lt_or_ge i (lb l t - 1) with h3 | h3
        · have := h.lt h3 (by omega); omega
        · rw [show lb l t - 1 = i by omega]; exact b
      rw [if_pos this]
/-- Nearest: some reading so near -/
theorem val_near {l : List Rp} (h : Asc l) {t : Int} (h0 : 0 ≤ t) (h1 : t ≤ 1099511627776) {r : Int} (r0 : 0 ≤ r) (r1 : r ≤ 1000) : (val l 2 r t).2 = true ↔ ∃ i, i < l.length ∧ t - tm l i ≤ r ∧ tm l i - t ≤ r := by
  have hle := lb_le l t
  unfold val
  split
  · rename_i h2
    exact ⟨fun _ => ⟨lb l t, h2.1, by omega, by omega⟩, fun _ => rfl⟩
  · rename_i h2
    rw [if_neg (by decide), if_pos rfl]
    have hb : bck l t ≤ r → ∃ i, i < l.length ∧ t - tm l i ≤ r ∧ tm l i - t ≤ r := fun h4 => by
      unfold bck far at h4
      split at h4
      · have := lb_lt l t (lb l t - 1) (by omega)
        exact ⟨lb l t - 1, by omega, by omega, by omega⟩
      · omega
    have ha : ahd l t ≤ r → ∃ i, i < l.length ∧ t - tm l i ≤ r ∧ tm l i - t ≤ r := fun h4 => by
      unfold ahd far at h4
      split at h4
      · rename_i h5
        have := lb_ge l t h5
        exact ⟨lb l t, h5, by omega, by omega⟩
      · omega
    constructor
    · intro h3
      split at h3
      · rename_i h4
        exact hb h4.2
      · split at h3
        · rename_i h4
          exact ha h4.2
        · cases h3
    · rintro ⟨i, hi, a, b⟩
      have hor : bck l t ≤ r ∨ ahd l t ≤ r := by
        rcases Nat.lt_or_ge i (lb l t) with h3 | h3
        · refine .inl ?_
          unfold bck
          rw [if_pos (by omega)]
          rcases Nat.lt_or_ge i (lb l t - 1) with h4 | h4
          · have := h.lt h4 (by omega); omega
          · rw [show lb l t - 1 = i by omega]; exact a
        · refine .inr ?_
          unfold ahd
          rw [if_pos (by omega)]
          rcases Nat.lt_or_ge (lb l t) i with h4 | h4
          · have := h.lt h4 hi; omega
          · rw [show lb l t = i by omega]; exact b
      split
      · rfl
      · rename_i h4
        rw [if_pos (by omega)]
/-- Linear only where Hold and Nearest have one -/
theorem val_lin {l : List Rp} {t r : Int} (h : (val l 3 r t).2 = true) : (val l 1 r t).2 = true ∧ (val l 2 r t).2 = true := by
  unfold val at h ⊢
  split
  · exact ⟨rfl, rfl⟩
  · rename_i h2
    rw [if_neg h2, if_neg (by decide), if_neg (by decide), if_pos rfl] at h
    split at h
    · rename_i h3
      refine ⟨by rw [if_pos rfl, if_pos h3.1], ?_⟩
      rw [if_neg (by decide), if_pos rfl]
      split
      · rfl
      · rw [if_pos (by omega)]
    · cases h
/-- all moved by a time -/
def mv (l : List Rp) (b : Int) : List Rp := l.map fun p => (p.1 + b, p.2)
theorem mv_len (l : List Rp) (b : Int) : (mv l b).length = l.length := by simp [mv]
theorem mv_tm (l : List Rp) (b : Int) (i : Nat) (h : i < l.length) : tm (mv l b) i = tm l i + b := by
  simp [tm, mv, List.getD_eq_getElem?_getD, h]
theorem mv_vl (l : List Rp) (b : Int) (i : Nat) : vl (mv l b) i = vl l i := by
  rcases Nat.lt_or_ge i l.length with h | h <;> simp [vl, mv, List.getD_eq_getElem?_getD, h]
theorem mv_lb (l : List Rp) (b t : Int) : lb (mv l b) (t + b) = lb l t := by
  induction l with
  | nil => rfl
  | cons p l ih =>
    have e : mv (p :: l) b = (p.1 + b, p.2) :: mv l b := rfl
    rw [e]
    unfold lb
    rw [ih]
    by_cases h : p.1 < t
    · rw [if_pos h, if_pos (show p.1 + b < t + b by omega)]
    · rw [if_neg h, if_neg (show ¬ p.1 + b < t + b by omega)]
theorem mv_val (l : List Rp) (b rule reach t : Int) : val (mv l b) rule reach (t + b) = val l rule reach t := by
  have hle := lb_le l t
  have e1 : bck (mv l b) (t + b) = bck l t := by
    unfold bck
    rw [mv_lb]
    split
    · rw [mv_tm _ _ _ (by omega)]; omega
    · rfl
  have e2 : ahd (mv l b) (t + b) = ahd l t := by
    unfold ahd
    rw [mv_lb, mv_len]
    split
    · rename_i h; rw [mv_tm _ _ _ h]; omega
    · rfl
  have e3 : bv (mv l b) (t + b) = bv l t := by
    unfold bv
    rw [mv_lb]
    split
    · rw [mv_vl]
    · rfl
  have e4 : av (mv l b) (t + b) = av l t := by
    unfold av
    rw [mv_lb, mv_len]
    split
    · rw [mv_vl]
    · rfl
  unfold val
  rw [e1, e2, e3, e4, mv_lb, mv_len, mv_vl]
  by_cases h : lb l t < l.length ∧ tm l (lb l t) = t
  · rw [if_pos h, if_pos ⟨h.1, by rw [mv_tm _ _ _ h.1]; omega⟩]
  · rw [if_neg h, if_neg (fun k => h ⟨k.1, by have := k.2; rw [mv_tm _ _ _ k.1] at this; omega⟩)]
/-- the line between two readings: in range, one direction, at most half a sample away -/
theorem hup_rest {a n : Int} (hn : 0 < n) : 2 * (a - hup a n * n) < n ∧ -n ≤ 2 * (a - hup a n * n) := by
  unfold hup
  have h1 := Int.emod_add_mul_ediv (2 * a + n) (2 * n)
  have h2 := Int.emod_nonneg (2 * a + n) (b := 2 * n) (by omega)
  have h3 := Int.emod_lt_of_pos (2 * a + n) (b := 2 * n) (by omega)
  generalize (2 * a + n) / (2 * n) = q at *
  have e : 2 * n * q = 2 * (q * n) := by grind
  rw [e] at h1
  omega
theorem hup_mono {a b n : Int} (hn : 0 < n) (h : a ≤ b) : hup a n ≤ hup b n := Int.ediv_le_ediv (by omega) (by omega)
theorem hup_mul (q : Int) {n : Int} (hn : 0 < n) : hup (q * n) n = q := by
  have h := hup_rest (a := q * n) hn
  generalize hup (q * n) n = u at *
  have e : q * n - u * n = (q - u) * n := by grind
  rw [e] at h
  rcases Int.lt_trichotomy (q - u) 0 with g | g | g
  · have := Int.mul_le_mul_of_nonneg_right (show q - u ≤ -1 by omega) (show 0 ≤ n by omega)
    omega
  · omega
  · have := Int.mul_le_mul_of_nonneg_right (show 1 ≤ q - u by omega) (show 0 ≤ n by omega)
    omega
/-- the numerator on the line -/
def nu (p q n k : Int) : Int := p * (n - k) + q * k
theorem nu_eq (p q n k : Int) : nu p q n k = p * n + (q - p) * k := by unfold nu; grind
theorem nu_up {p q n k : Int} (h : p ≤ q) (k0 : 0 ≤ k) (kn : k + 1 ≤ n) : p * n ≤ nu p q n k ∧ nu p q n k ≤ nu p q n (k + 1) ∧ nu p q n (k + 1) ≤ q * n := by
  rw [nu_eq, nu_eq]
  have h1 := Int.mul_nonneg (show 0 ≤ q - p by omega) k0
  have h2 := Int.mul_le_mul_of_nonneg_left kn (show 0 ≤ q - p by omega)
  have e : (q - p) * (k + 1) = (q - p) * k + (q - p) := by grind
  have e2 : (q - p) * n = q * n - p * n := by grind
  omega
theorem nu_dn {p q n k : Int} (h : q ≤ p) (k0 : 0 ≤ k) (kn : k + 1 ≤ n) : q * n ≤ nu p q n (k + 1) ∧ nu p q n (k + 1) ≤ nu p q n k ∧ nu p q n k ≤ p * n := by
  rw [nu_eq, nu_eq]
  have h1 := Int.mul_nonneg (show 0 ≤ p - q by omega) k0
  have h2 := Int.mul_le_mul_of_nonneg_left kn (show 0 ≤ p - q by omega)
  have e : (p - q) * (k + 1) = (p - q) * k + (p - q) := by grind
  have e2 : (p - q) * n = p * n - q * n := by grind
  have e3 : (q - p) * k = -((p - q) * k) := by grind
  have e4 : (q - p) * (k + 1) = -((p - q) * (k + 1)) := by grind
  omega
theorem line_at {p q n k : Int} (hn : 1 ≤ n) (k0 : 0 ≤ k) (kn : k ≤ n) : val [(100, p), (100 + n, q)] 3 n (100 + k) = (hup (nu p q n k) n, true) := by
  have hz : hup (nu p q n 0) n = p := by rw [nu_eq, Int.mul_zero, Int.add_zero, hup_mul _ (by omega)]
  have hne : hup (nu p q n n) n = q := by rw [nu_eq, show p * n + (q - p) * n = q * n by grind, hup_mul _ (by omega)]
  rcases Int.lt_or_le 0 k with h | h
  · rcases Int.lt_or_le k n with h2 | h2
    · have e : lb [(100, p), (100 + n, q)] (100 + k) = 1 := lb_eq _ _ 1 (fun j hj => by obtain rfl : j = 0 := by omega
                                                                                        simp [tm]; omega) (by simp) (fun _ => by simp [tm]; omega)
      have e1 : bck [(100, p), (100 + n, q)] (100 + k) = k := by unfold bck; rw [e, if_pos (by omega)]; simp [tm]; omega
      have e2 : ahd [(100, p), (100 + n, q)] (100 + k) = n - k := by unfold ahd; rw [e, if_pos (by simp)]; simp [tm]; omega
      have e3 : bv [(100, p), (100 + n, q)] (100 + k) = p := by unfold bv; rw [e, if_pos (by omega)]; simp [vl]
      have e4 : av [(100, p), (100 + n, q)] (100 + k) = q := by unfold av; rw [e, if_pos (by simp)]; simp [vl]
      unfold val
      rw [e1, e2, e3, e4, e, if_neg (fun h => by have := h.2; simp [tm] at this; omega), if_neg (by decide), if_neg (by decide), if_pos rfl, if_pos ⟨by omega, by omega⟩, show k + (n - k) = n by omega]
      rfl
    · obtain rfl : k = n := by omega
      have e : lb [(100, p), (100 + k, q)] (100 + k) = 1 := lb_eq _ _ 1 (fun j hj => by obtain rfl : j = 0 := by omega
                                                                                        simp [tm]; omega) (by simp) (fun _ => by simp [tm])
      unfold val
      rw [e, if_pos ⟨by simp, by simp [tm]⟩, hne]
      simp [vl]
  · obtain rfl : k = 0 := by omega
    have e : lb [(100, p), (100 + n, q)] (100 + 0) = 0 := lb_eq _ _ 0 (fun j hj => by omega) (by simp) (fun _ => by simp [tm])
    unfold val
    rw [e, if_pos ⟨by simp, by simp [tm]⟩, hz]
    simp [vl]
end Go.Proofs.Ytgcjangnlbhicaa.Rm
