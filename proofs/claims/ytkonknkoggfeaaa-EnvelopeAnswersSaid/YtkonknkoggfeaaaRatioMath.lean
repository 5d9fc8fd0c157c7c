/- Plain facts about greatest common divisors and ratios: no program here. -/
import Derived.Below
namespace Go.Proofs.Ytkonknkoggfeaaa.Ra
/-- the greatest common divisor, as an integer -/
def gd (a b : Int) : Int := (Nat.gcd a.toNat b.toNat : Nat)
theorem gd_zero {a : Int} (h : 0 ≤ a) : gd a 0 = a := by
  unfold gd
  simp
  omega
theorem gd_step {a b : Int} (ha : 0 ≤ a) (hb : 0 < b) : gd b (a % b) = gd a b := by
  unfold gd
  have e : (a % b).toNat = a.toNat % b.toNat := by
    rw [Int.toNat_emod ha (by omega)]
  rw [e, Nat.gcd_comm a.toNat, Nat.gcd_rec b.toNat a.toNat, Nat.gcd_comm]
theorem gd_nonneg (a b : Int) : 0 ≤ gd a b := by unfold gd; omega
theorem gd_comm (a b : Int) : gd a b = gd b a := by unfold gd; rw [Nat.gcd_comm]
theorem gd_pos {a b : Int} (h : 0 < b) : 1 ≤ gd a b := by
  unfold gd
  have : 0 < Nat.gcd a.toNat b.toNat := Nat.gcd_pos_of_pos_right _ (by omega)
  omega
theorem gd_le_right {a b : Int} (h : 0 < b) : gd a b ≤ b := by
  unfold gd
  have : Nat.gcd a.toNat b.toNat ≤ b.toNat := Nat.gcd_le_right _ (by omega)
  omega
theorem gd_dvd_left {a b : Int} (h : 0 ≤ a) : gd a b ∣ a := by
  unfold gd
  have := Nat.gcd_dvd_left a.toNat b.toNat
  have e : a = (a.toNat : Int) := by omega
  rw [e]
  exact_mod_cast this
theorem gd_dvd_right {a b : Int} (h : 0 ≤ b) : gd a b ∣ b := by rw [gd_comm]; exact gd_dvd_left h
/-- the greatest common divisor of the quotients is 1 -/
theorem gd_quot {a b : Int} (ha : 0 ≤ a) (hb : 0 < b) : gd (a / gd a b) (b / gd a b) = 1 := by
  have hp := gd_pos (a := a) hb
  have dv : ∀ {x y : Int}, 0 ≤ x → 0 ≤ y → (x / y).toNat = x.toNat / y.toNat := by
    intro x y hx hy
    obtain ⟨u, rfl⟩ := Int.eq_ofNat_of_zero_le hx
    obtain ⟨v, rfl⟩ := Int.eq_ofNat_of_zero_le hy
    rfl
  have e1 : (a / gd a b).toNat = a.toNat / Nat.gcd a.toNat b.toNat := dv ha (by omega)
  have e2 : (b / gd a b).toNat = b.toNat / Nat.gcd a.toNat b.toNat := dv (by omega) (by omega)
  have := Nat.coprime_div_gcd_div_gcd (m := a.toNat) (n := b.toNat) (Nat.gcd_pos_of_pos_right _ (by omega))
  unfold Nat.Coprime at this
  show ((Nat.gcd (a / gd a b).toNat (b / gd a b).toNat : Nat) : Int) = 1
  rw [e1, e2, this]; rfl
theorem quot_mul {a d : Int} (h : d ∣ a) : a / d * d = a := Int.ediv_mul_cancel h
/-- within the limits -/
def RIn (n d : Int) : Prop := 0 ≤ n ∧ n ≤ 2305843009213693952 ∧ 1 ≤ d ∧ d ≤ 1152921504606846976
/-- a valid ratio -/
def RV (n d : Int) : Prop := RIn n d ∧ gd n d = 1
open Classical in
noncomputable def pb (p : Prop) : Bool := decide p
open Classical in
theorem pb_yes {p : Prop} (h : p) : pb p = true := by unfold pb; exact decide_eq_true h
open Classical in
theorem pb_no {p : Prop} (h : ¬ p) : pb p = false := by unfold pb; exact decide_eq_false h
open Classical in
theorem of_pb {p : Prop} (h : pb p = true) : p := by unfold pb at h; exact of_decide_eq_true h
open Classical in
theorem of_not_pb {p : Prop} (h : pb p = false) : ¬ p := by unfold pb at h; exact of_decide_eq_false h
/-- the answers of inRange and Valid -/
noncomputable def rin (n d : Int) : Bool := pb (RIn n d)
noncomputable def rv (n d : Int) : Bool := pb (RV n d)
theorem rin_yes {n d : Int} (h : RIn n d) : rin n d = true := pb_yes h
theorem rin_no {n d : Int} (h : ¬ RIn n d) : rin n d = false := pb_no h
theorem rv_yes {n d : Int} (h : RV n d) : rv n d = true := pb_yes h
theorem rv_no {n d : Int} (h : ¬ RV n d) : rv n d = false := pb_no h
theorem of_rin {n d : Int} (h : rin n d = true) : RIn n d := of_pb h
theorem of_rv {n d : Int} (h : rv n d = true) : RV n d := of_pb h
theorem of_not_rv {n d : Int} (h : rv n d = false) : ¬ RV n d := of_not_pb h
/-- the error of Make -/
def MOk (n d : Int) : Prop := 0 ≤ n ∧ 1 ≤ d ∧ RIn (n / gd n d) (d / gd n d)
theorem mok_rv {n d : Int} (h : MOk n d) : RV (n / gd n d) (d / gd n d) := ⟨h.2.2, gd_quot h.1 (by have := h.2.1; omega)⟩
/-- the order of valid ratios -/
def cmpI (a b : Int) : Int := if a < b then -1 else if b < a then 1 else 0
def rc (n d m e : Int) : Int := cmpI (n * e) (m * d)
def orI (x y : Int) : Int := if x = 0 then y else x
theorem cmp_wide {a b : Int} : orI (cmpI (a / 18446744073709551616) (b / 18446744073709551616)) (cmpI (a % 18446744073709551616) (b % 18446744073709551616)) = cmpI a b := by
  unfold orI cmpI
  repeat' split
  all_goals omega
theorem cmpI_lt {a b : Int} (h : a < b) : cmpI a b = -1 := by unfold cmpI; rw [if_pos h]
theorem cmpI_gt {a b : Int} (h : b < a) : cmpI a b = 1 := by unfold cmpI; rw [if_neg (by omega), if_pos h]
theorem cmpI_eq {a b : Int} (h : a = b) : cmpI a b = 0 := by unfold cmpI; rw [if_neg (by omega), if_neg (by omega)]
/-- what Cmp returns -/
noncomputable def rcmp (n d m e : Int) : Int := if rv n d = true ∧ rv m e = true then cmpI (n * e) (m * d) else 0
theorem rcmp_in {n d m e : Int} (h : rv n d = true) (k : rv m e = true) : rcmp n d m e = cmpI (n * e) (m * d) := by unfold rcmp; rw [if_pos ⟨h, k⟩]
theorem rcmp_out {n d m e : Int} (h : rv n d = false ∨ rv m e = false) : rcmp n d m e = 0 := by
  unfold rcmp
  rw [if_neg]
  rintro ⟨a, b⟩
  rcases h with h | h
  · rw [h] at a; cases a
  · rw [h] at b; cases b
theorem gd_mul {a b f : Int} (ha : 0 ≤ a) (hb : 0 ≤ b) (hf : 0 ≤ f) : gd (a * f) (b * f) = gd a b * f := by
  obtain ⟨x, rfl⟩ := Int.eq_ofNat_of_zero_le ha
  obtain ⟨y, rfl⟩ := Int.eq_ofNat_of_zero_le hb
  obtain ⟨z, rfl⟩ := Int.eq_ofNat_of_zero_le hf
  have e1 : ((x : Int) * z).toNat = x * z := by rw [← Int.natCast_mul, Int.toNat_natCast]
  have e2 : ((y : Int) * z).toNat = y * z := by rw [← Int.natCast_mul, Int.toNat_natCast]
  unfold gd
  rw [e1, e2, Nat.gcd_mul_right, Int.natCast_mul]
  simp
theorem quot_scale {a g f : Int} (hf : 0 < f) : a * f / (g * f) = a / g := Int.mul_ediv_mul_of_pos_left _ _ hf
theorem rv_eq {n d m e : Int} (h : RV n d) (k : RV m e) (he : n * e = m * d) : n = m ∧ d = e := by
  obtain ⟨⟨n0, _, d0, _⟩, hg⟩ := h
  obtain ⟨⟨m0, _, e0, _⟩, kg⟩ := k
  obtain ⟨x, rfl⟩ := Int.eq_ofNat_of_zero_le n0
  obtain ⟨y, rfl⟩ := Int.eq_ofNat_of_zero_le (show 0 ≤ d by omega)
  obtain ⟨u, rfl⟩ := Int.eq_ofNat_of_zero_le m0
  obtain ⟨v, rfl⟩ := Int.eq_ofNat_of_zero_le (show 0 ≤ e by omega)
  have hn : x * v = u * y := by exact_mod_cast he
  have g1 : Nat.gcd x y = 1 := by unfold gd at hg; simp at hg; exact_mod_cast hg
  have g2 : Nat.gcd u v = 1 := by unfold gd at kg; simp at kg; exact_mod_cast kg
  have d1 : y ∣ v := Nat.Coprime.dvd_of_dvd_mul_left (k := y) (m := x) (Nat.Coprime.symm g1) (by rw [hn]; exact Nat.dvd_mul_left _ _)
  have d2 : v ∣ y := Nat.Coprime.dvd_of_dvd_mul_left (k := v) (m := u) (Nat.Coprime.symm g2) (by rw [← hn]; exact Nat.dvd_mul_left _ _)
  have hv : y = v := Nat.dvd_antisymm d1 d2
  subst hv
  have : x = u := Nat.eq_of_mul_eq_mul_right (by omega) hn
  exact ⟨by rw [this], rfl⟩
/-- what Make returns for small numbers -/
theorem make_facts {n d : Int} (h0 : 0 ≤ n) (h1 : 1 ≤ d) (h2 : n ≤ 2305843009213693952) (h3 : d ≤ 1152921504606846976) :
    0 ≤ n / gd n d ∧ n / gd n d ≤ n ∧ 1 ≤ d / gd n d ∧ d / gd n d ≤ d ∧ n / gd n d * gd n d = n ∧ d / gd n d * gd n d = d ∧ RV (n / gd n d) (d / gd n d) ∧ n / gd n d * d = n * (d / gd n d) := by
  have g1 := gd_pos (a := n) (b := d) (by omega)
  have a1 := quot_mul (gd_dvd_left (b := d) h0)
  have a2 := quot_mul (gd_dvd_right (a := n) (b := d) (by omega))
  have b0 : 0 ≤ n / gd n d := Int.ediv_nonneg h0 (by omega)
  have b1 : n / gd n d ≤ n := Int.ediv_le_self _ h0
  have b2 : 0 ≤ d / gd n d := Int.ediv_nonneg (by omega) (by omega)
  have b3 : d / gd n d ≤ d := Int.ediv_le_self _ (by omega)
  have b4 : d / gd n d ≠ 0 := by intro h; rw [h] at a2; omega
  refine ⟨b0, b1, by omega, b3, a1, a2, ⟨⟨b0, by omega, by omega, by omega⟩, gd_quot h0 (by omega)⟩, ?_⟩
  have e1 : n / gd n d * d = n / gd n d * (d / gd n d * gd n d) := by rw [a2]
  have e2 : n * (d / gd n d) = n / gd n d * gd n d * (d / gd n d) := by rw [a1]
  rw [e1, e2]
  grind
theorem cross_eq {x0 x1 y0 y1 g h a b c d : Int} (e1 : x0 * g = a) (e2 : x1 * g = b) (e3 : y0 * h = c) (e4 : y1 * h = d) : a * d = x0 * y1 * (g * h) ∧ c * b = y0 * x1 * (g * h) := by
  subst e1 e2 e3 e4
  exact ⟨by grind, by grind⟩
theorem cross_lt {u v k a b : Int} (hk : 0 < k) (ha : a = u * k) (hb : b = v * k) : (a < b ↔ u < v) ∧ (a = b ↔ u = v) := by
  subst ha hb
  refine ⟨Int.mul_lt_mul_right hk, ?_⟩
  constructor
  · intro h; exact Int.eq_of_mul_eq_mul_right (by omega) h
  · intro h; rw [h]
theorem cmpI_ge {a b : Int} (h : b ≤ a) : decide (cmpI a b < 0) = false := by
  unfold cmpI
  rw [if_neg (by omega)]
  split <;> decide
theorem gd_one (a : Int) : gd a 1 = 1 := by unfold gd; simp
/-- the facts of Floor and Ceil: the integers below and above -/
theorem round_facts {n d : Int} (h : RV n d) : 0 ≤ n / d ∧ n / d ≤ n ∧ n / d * d ≤ n * 1 ∧ (d = 1 ∧ n % d = 0 ∧ n / d = n ∨ d ≠ 1 ∧ n % d ≠ 0 ∧ n * 1 ≤ (n / d + 1) * d ∧ n / d + 1 ≤ 2305843009213693952) := by
  obtain ⟨⟨n0, n1, d0, d1⟩, hg⟩ := h
  have e1 := Int.emod_add_mul_ediv n d
  have e2 := Int.emod_nonneg n (b := d) (by omega)
  have e3 := Int.emod_lt_of_pos n (b := d) (by omega)
  have e4 : d * (n / d) = n / d * d := Int.mul_comm _ _
  have q0 : 0 ≤ n / d := Int.ediv_nonneg n0 (by omega)
  have q1 : n / d ≤ n := Int.ediv_le_self _ n0
  refine ⟨q0, q1, by omega, ?_⟩
  rcases Classical.em (d = 1) with hd | hd
  · subst hd
    exact .inl ⟨rfl, by omega, by omega⟩
  · refine .inr ⟨hd, fun hz => hd ?_, ?_, ?_⟩
    · have hdv : d ∣ n := Int.dvd_of_emod_eq_zero hz
      have : gd n d = d := by
        obtain ⟨x, rfl⟩ := Int.eq_ofNat_of_zero_le n0
        obtain ⟨y, rfl⟩ := Int.eq_ofNat_of_zero_le (show 0 ≤ d by omega)
        unfold gd
        simp only [Int.toNat_natCast]
        rw [Nat.gcd_eq_right (by exact_mod_cast hdv)]
      omega
    · have : (n / d + 1) * d = n / d * d + d := by grind
      omega
    · have : 2 * (n / d) ≤ d * (n / d) := Int.mul_le_mul_of_nonneg_right (by omega) q0
      omega
theorem rcmp_three {n d m e : Int} (h : RV n d) (k : RV m e) : (rcmp n d m e = -1 ∧ n * e < m * d) ∨ (rcmp n d m e = 0 ∧ n * e = m * d) ∨ (rcmp n d m e = 1 ∧ m * d < n * e) := by
  rw [rcmp_in (rv_yes h) (rv_yes k)]
  rcases Int.lt_trichotomy (n * e) (m * d) with g | g | g
  · exact .inl ⟨cmpI_lt g, g⟩
  · exact .inr (.inl ⟨cmpI_eq g, g⟩)
  · exact .inr (.inr ⟨cmpI_gt g, g⟩)
theorem rcmp_turn {n d m e : Int} (h : RV n d) (k : RV m e) : rcmp m e n d = -rcmp n d m e := by
  rw [rcmp_in (rv_yes h) (rv_yes k), rcmp_in (rv_yes k) (rv_yes h)]
  rcases Int.lt_trichotomy (n * e) (m * d) with g | g | g
  · rw [cmpI_lt g, cmpI_gt g]; rfl
  · rw [cmpI_eq g, cmpI_eq g.symm]; rfl
  · rw [cmpI_gt g, cmpI_lt g]
theorem rcmp_self {n d : Int} (h : RV n d) : rcmp n d n d = 0 := by
  rw [rcmp_in (rv_yes h) (rv_yes h)]; exact cmpI_eq rfl
theorem le_trans_frac {n1 d1 n2 d2 n3 d3 : Int} (h1 : 1 ≤ d1) (h2 : 1 ≤ d2) (h3 : 1 ≤ d3) (a : n1 * d2 ≤ n2 * d1) (b : n2 * d3 ≤ n3 * d2) : n1 * d3 ≤ n3 * d1 := by
  have e1 := Int.mul_le_mul_of_nonneg_right a (show 0 ≤ d3 by omega)
  have e2 := Int.mul_le_mul_of_nonneg_right b (show 0 ≤ d1 by omega)
  have e3 : n2 * d1 * d3 = n2 * d3 * d1 := by grind
  have e4 : n1 * d2 * d3 = n1 * d3 * d2 := by grind
  have e5 : n3 * d2 * d1 = n3 * d1 * d2 := by grind
  exact Int.le_of_mul_le_mul_right (show n1 * d3 * d2 ≤ n3 * d1 * d2 by omega) (show 0 < d2 by omega)
theorem rcmp_le {n d m e : Int} (h : RV n d) (k : RV m e) : (rcmp n d m e ≤ 0 ↔ n * e ≤ m * d) ∧ (0 ≤ rcmp n d m e ↔ m * d ≤ n * e) := by
  rcases rcmp_three h k with ⟨e1, e2⟩ | ⟨e1, e2⟩ | ⟨e1, e2⟩ <;> rw [e1] <;> constructor <;> constructor <;> intro _ <;> omega
theorem rcmp_trans {n1 d1 n2 d2 n3 d3 : Int} (h1 : RV n1 d1) (h2 : RV n2 d2) (h3 : RV n3 d3) :
    (rcmp n1 d1 n2 d2 ≤ 0 → rcmp n2 d2 n3 d3 ≤ 0 → rcmp n1 d1 n3 d3 ≤ 0) ∧ (0 ≤ rcmp n1 d1 n2 d2 → 0 ≤ rcmp n2 d2 n3 d3 → 0 ≤ rcmp n1 d1 n3 d3) := by
  have p1 := h1.1.2.2.1
  have p2 := h2.1.2.2.1
  have p3 := h3.1.2.2.1
  constructor
  · intro a b
    exact (rcmp_le h1 h3).1.2 (le_trans_frac p1 p2 p3 ((rcmp_le h1 h2).1.1 a) ((rcmp_le h2 h3).1.1 b))
  · intro a b
    exact (rcmp_le h1 h3).2.2 (le_trans_frac p3 p2 p1 ((rcmp_le h2 h3).2.1 b) ((rcmp_le h1 h2).2.1 a))
theorem rcmp_same {n d m e : Int} (h : RV n d) (k : RV m e) : rcmp n d m e = 0 ↔ n = m ∧ d = e := by
  rcases rcmp_three h k with ⟨e1, e2⟩ | ⟨e1, e2⟩ | ⟨e1, e2⟩ <;> rw [e1]
  · constructor
    · intro x; omega
    · rintro ⟨rfl, rfl⟩; omega
  · exact ⟨fun _ => rv_eq h k e2, fun _ => rfl⟩
  · constructor
    · intro x; omega
    · rintro ⟨rfl, rfl⟩; omega
end Go.Proofs.Ytkonknkoggfeaaa.Ra
