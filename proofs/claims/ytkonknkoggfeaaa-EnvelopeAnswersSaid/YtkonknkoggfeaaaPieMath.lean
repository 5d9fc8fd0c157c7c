/- Plain facts about pieces, their sums, and sums of fractions (layer 18): no program here. -/
import Derived.Test.YtkonknkoggfeaaaEucMath
import Derived.Test.YtkonknkoggfeaaaSumMath
namespace Go.Proofs.Ytkonknkoggfeaaa.Wi
open Ra
set_option linter.unusedVariables false
/-- where piece p begins -/
def st (m n p : Nat) : Nat := p * m / n
theorem st_zero (m n : Nat) : st m n 0 = 0 := by simp [st]
theorem st_all (m n : Nat) (hn : 0 < n) : st m n n = m := by unfold st; exact Nat.mul_div_cancel_left m hn
theorem st_step (m n p : Nat) (hn : 0 < n) : st m n p + m / n ≤ st m n (p + 1) ∧ st m n (p + 1) ≤ st m n p + m / n + 1 := by
  unfold st
  have e : (p + 1) * m = p * m + m := by rw [Nat.add_mul, Nat.one_mul]
  rw [e]
  have h1 := Nat.div_add_mod (p * m) n
  have h2 := Nat.div_add_mod m n
  have h3 := Nat.div_add_mod (p * m + m) n
  have l1 := Nat.mod_lt (p * m) hn
  have l2 := Nat.mod_lt m hn
  have l3 := Nat.mod_lt (p * m + m) hn
  obtain ⟨a, ha⟩ : ∃ a, p * m / n = a := ⟨_, rfl⟩
  obtain ⟨b, hb⟩ : ∃ a, m / n = a := ⟨_, rfl⟩
  obtain ⟨c, hc⟩ : ∃ a, (p * m + m) / n = a := ⟨_, rfl⟩
  rw [ha] at h1 ⊢
  rw [hb] at h2 ⊢
  rw [hc] at h3 ⊢
  constructor
  · rcases Nat.lt_or_ge c (a + b) with h | h
    · have : n * (c + 1) ≤ n * (a + b) := Nat.mul_le_mul_left n h
      rw [Nat.mul_add, Nat.mul_add, Nat.mul_one] at this
      omega
    · exact h
  · rcases Nat.lt_or_ge (a + b + 1) c with h | h
    · have : n * (a + b + 2) ≤ n * c := Nat.mul_le_mul_left n h
      rw [Nat.mul_add, Nat.mul_add] at this
      omega
    · exact h
theorem st_mono (m n p q : Nat) (h : p ≤ q) : st m n p ≤ st m n q := Nat.div_le_div_right (Nat.mul_le_mul_right m h)
theorem st_le (m n p : Nat) (hn : 0 < n) (h : p ≤ n) : st m n p ≤ m := by
  have := st_mono m n p n h
  rwa [st_all m n hn] at this
/-- the sum of the numbers from one place to the one before another one -/
def pg (X : List Int) (a b : Nat) : Int := su id ((X.drop a).take (b - a))
/-- the sum of the first numbers -/
def pre (X : List Int) (t : Nat) : Int := su id (X.take t)
theorem su_app (f : Int → Int) (A B : List Int) : su f (A ++ B) = su f A + su f B := by
  induction A with
  | nil => simp [su]
  | cons a A ih => simp only [List.cons_append, su, ih]; omega
theorem pg_pre (X : List Int) (a b : Nat) (h : a ≤ b) : pg X a b = pre X b - pre X a := by
  unfold pg pre
  have e : X.take b = X.take a ++ (X.drop a).take (b - a) := by
    rw [← List.take_add, show a + (b - a) = b by omega]
  rw [e, su_app]
  omega
/-- the sums of the pieces -/
def pls (X : List Int) (m n : Nat) : List Int := (List.range n).map fun p => pg X (st m n p) (st m n (p + 1))
theorem pls_len (X : List Int) (m n : Nat) : (pls X m n).length = n := by simp [pls]
theorem pls_at (X : List Int) (m n p : Nat) (h : p < n) : (pls X m n).getD p 0 = pg X (st m n p) (st m n (p + 1)) := by
  rw [List.getD_eq_getElem?_getD, pls, List.getElem?_map, List.getElem?_range h]; rfl
theorem pls_take (X : List Int) (m n p : Nat) (h : p ≤ n) : (pls X m n).take p = (List.range p).map fun p => pg X (st m n p) (st m n (p + 1)) := by
  unfold pls
  rw [← List.map_take, List.take_range, Nat.min_eq_left h]
theorem pg_bd {X : List Int} {B : Int} (h : ∀ x ∈ X, -B ≤ x ∧ x ≤ B) (hB : 0 ≤ B) (a b : Nat) : -(B * ((b - a : Nat) : Int)) ≤ pg X a b ∧ pg X a b ≤ B * ((b - a : Nat) : Int) := by
  have key : ∀ (L : List Int), (∀ x ∈ L, -B ≤ x ∧ x ≤ B) → -(B * (L.length : Int)) ≤ su id L ∧ su id L ≤ B * (L.length : Int) := by
    intro L
    induction L with
    | nil => intro _; simp [su]
    | cons x L ih =>
      intro h
      have h1 := h x (List.mem_cons_self ..)
      have h2 := ih (fun y hy => h y (List.mem_cons_of_mem _ hy))
      simp only [su, id, List.length_cons]
      have e : B * ((L.length + 1 : Nat) : Int) = B * (L.length : Int) + B := by rw [show ((L.length + 1 : Nat) : Int) = (L.length : Int) + 1 by omega, Int.mul_add, Int.mul_one]
      rw [e]
      omega
  have h1 := key ((X.drop a).take (b - a)) (fun x hx => h x (List.mem_of_mem_drop (List.mem_of_mem_take hx)))
  have h2 : (((X.drop a).take (b - a)).length : Int) ≤ ((b - a : Nat) : Int) := by
    have := List.length_take_le (b - a) (X.drop a)
    omega
  have h3 : B * (((X.drop a).take (b - a)).length : Int) ≤ B * ((b - a : Nat) : Int) := Int.mul_le_mul_of_nonneg_left h2 hB
  unfold pg
  omega
/-- a ratio has the value T / C -/
def Vl (n d T C : Int) : Prop := RV n d ∧ n * C = T * d
theorem vl_zero (C : Int) : Vl 0 1 0 C := ⟨⟨⟨by decide, by decide, by decide, by decide⟩, by decide⟩, by omega⟩
theorem vl_scale {n d T C k : Int} (h : Vl n d T C) : Vl n d (T * k) (C * k) := ⟨h.1, by rw [← Int.mul_assoc, h.2, Int.mul_right_comm]⟩
theorem vl_eq {n d m e T C : Int} (hC : 1 ≤ C) (h : Vl n d T C) (k : Vl m e T C) : n = m ∧ d = e := by
  refine rv_eq h.1 k.1 ?_
  have h1 : n * e * C = m * d * C := by
    rw [Int.mul_right_comm, h.2, Int.mul_right_comm m d C, k.2, Int.mul_assoc, Int.mul_assoc, Int.mul_comm d e]
  exact Int.eq_of_mul_eq_mul_right (by omega) h1
theorem dvd_of_cop {t u C S : Int} (ht : 0 ≤ t) (hu : 1 ≤ u) (hC : 1 ≤ C) (hS : 0 ≤ S) (hg : gd t u = 1) (h : t * C = S * u) : u ≤ C ∧ t ≤ S := by
  obtain ⟨a, rfl⟩ := Int.eq_ofNat_of_zero_le ht
  obtain ⟨b, rfl⟩ := Int.eq_ofNat_of_zero_le (show 0 ≤ u by omega)
  obtain ⟨c, rfl⟩ := Int.eq_ofNat_of_zero_le (show 0 ≤ C by omega)
  obtain ⟨s, rfl⟩ := Int.eq_ofNat_of_zero_le hS
  have hg' : Nat.gcd a b = 1 := by
    unfold gd at hg
    simp only [Int.toNat_natCast] at hg
    omega
  have h' : a * c = s * b := by
    have : ((a * c : Nat) : Int) = ((s * b : Nat) : Int) := by rw [Int.natCast_mul, Int.natCast_mul]; exact h
    omega
  have d1 : b ∣ a * c := ⟨s, by rw [h', Nat.mul_comm]⟩
  have d2 : b ∣ c := Nat.Coprime.dvd_of_dvd_mul_left (show Nat.Coprime b a by rw [Nat.coprime_comm]; exact hg') d1
  have l1 : b ≤ c := Nat.le_of_dvd (by omega) d2
  have l2 : a * c ≤ s * c := by rw [h']; exact Nat.mul_le_mul_left s l1
  have l3 : a ≤ s := Nat.le_of_mul_le_mul_right l2 (by omega)
  omega
theorem vl_add {n d m e t u T T' C : Int} (h : Vl n d T C) (k : Vl m e T' C) (hr : RSum n d m e t u) (hC : 1 ≤ C) (hC2 : C ≤ 1152921504606846976) (hT : 0 ≤ T) (hT' : 0 ≤ T') (hT2 : T + T' ≤ 2305843009213693952) : Vl t u (T + T') C := by
  obtain ⟨t0, u1, g, e1⟩ := hr
  have d1 := h.1.1.2.2.1
  have e1' := k.1.1.2.2.1
  have hde : 0 < d * e := Int.mul_pos (by omega) (by omega)
  have key : t * C = (T + T') * u := by
    have : t * C * (d * e) = (T + T') * u * (d * e) := by
      calc t * C * (d * e) = t * (d * e) * C := Int.mul_right_comm ..
        _ = (n * e + m * d) * u * C := by rw [e1]
        _ = (n * C * e + m * C * d) * u := by grind
        _ = (T * d * e + T' * e * d) * u := by rw [h.2, k.2]
        _ = (T + T') * u * (d * e) := by grind
    exact Int.eq_of_mul_eq_mul_right (by omega) this
  have hb := dvd_of_cop t0 u1 hC (by omega) g key
  exact ⟨⟨⟨t0, by omega, u1, by omega⟩, g⟩, key⟩
theorem vl_make {n d : Int} (h0 : 0 ≤ n) (h1 : 1 ≤ d) (h2 : n ≤ 2305843009213693952) (h3 : d ≤ 1152921504606846976) : Vl (n / gd n d) (d / gd n d) n d := by
  have hm := make_facts h0 h1 h2 h3
  have g1 := gd_dvd_left (b := d) h0
  have g2 := gd_dvd_right (a := n) (show 0 ≤ d by omega)
  have gp := gd_pos (a := n) (show 0 < d by omega)
  refine ⟨mok_rv ⟨h0, h1, ?_⟩, ?_⟩
  · have a1 := Int.ediv_nonneg h0 (gd_nonneg n d)
    have a2 := Int.ediv_le_self (gd n d) h0
    have a3 := Int.ediv_le_self (gd n d) (show 0 ≤ d by omega)
    have a4 : 1 ≤ d / gd n d := Int.le_ediv_of_mul_le (by omega) (by have := gd_le_right (a := n) (show 0 < d by omega); omega)
    exact ⟨a1, by omega, a4, by omega⟩
  · have e1 := quot_mul g1
    have e2 := quot_mul g2
    calc n / gd n d * d = n / gd n d * (d / gd n d * gd n d) := by rw [e2]
      _ = n / gd n d * gd n d * (d / gd n d) := by grind
      _ = n * (d / gd n d) := by rw [e1]
theorem vl_le {n d m e T S C : Int} (hC : 1 ≤ C) (h : Vl n d T C) (k : Vl m e S C) : n * e ≤ m * d ↔ T ≤ S := by
  have d1 := h.1.1.2.2.1
  have e1 := k.1.1.2.2.1
  have hde : 0 < d * e := Int.mul_pos (by omega) (by omega)
  have a1 : n * e * C = T * (d * e) := by rw [Int.mul_right_comm, h.2, Int.mul_assoc]
  have a2 : m * d * C = S * (d * e) := by rw [Int.mul_right_comm, k.2, Int.mul_assoc, Int.mul_comm e d]
  constructor
  · intro hh
    have := Int.mul_le_mul_of_nonneg_right hh (show 0 ≤ C by omega)
    rw [a1, a2] at this
    exact Int.le_of_mul_le_mul_right this hde
  · intro hh
    have := Int.mul_le_mul_of_nonneg_right hh (Int.le_of_lt hde)
    rw [← a1, ← a2] at this
    exact Int.le_of_mul_le_mul_right this (by omega)
/-- sums over the first places -/
def tq (f : Nat → Int) : Nat → Int
  | 0 => 0
  | i + 1 => tq f i + f i
theorem tq_nn {f : Nat → Int} {n : Nat} (h : ∀ i, i < n → 0 ≤ f i) : ∀ i, i ≤ n → 0 ≤ tq f i := by
  intro i
  induction i with
  | zero => intro _; exact Int.le_refl _
  | succ i ih => intro hi; have := ih (by omega); have := h i (by omega); show 0 ≤ tq f i + f i; omega
theorem tq_hi {f : Nat → Int} {n : Nat} {B : Int} (h : ∀ i, i < n → f i ≤ B) : ∀ i, i ≤ n → tq f i ≤ B * (i : Int) := by
  intro i
  induction i with
  | zero => intro _; simp [tq]
  | succ i ih =>
    intro hi
    have h1 := ih (by omega)
    have h2 := h i (by omega)
    have e : B * ((i + 1 : Nat) : Int) = B * (i : Int) + B := by rw [show ((i + 1 : Nat) : Int) = (i : Int) + 1 by omega, Int.mul_add, Int.mul_one]
    show tq f i + f i ≤ _
    rw [e]
    omega
theorem tq_cong {f g : Nat → Int} {n : Nat} (h : ∀ i, i < n → f i = g i) : ∀ i, i ≤ n → tq f i = tq g i := by
  intro i
  induction i with
  | zero => intro _; rfl
  | succ i ih => intro hi; show tq f i + f i = tq g i + g i; rw [ih (by omega), h i (by omega)]
/-- what a length lacks to the common one -/
def wq (l : Nat) (k : Nat) : Int := if k = l then (l : Int) + 1 else (l : Int)
theorem wq_mul {l k : Nat} (h1 : l ≤ k) (h2 : k ≤ l + 1) : (k : Int) * wq l k = (l : Int) * ((l : Int) + 1) := by
  unfold wq
  split
  · rename_i e; rw [e]
  · rename_i e
    obtain rfl : k = l + 1 := by omega
    rw [show ((l + 1 : Nat) : Int) = (l : Int) + 1 by omega, Int.mul_comm]
theorem den_dvd {n d T C : Int} (h : Vl n d T C) (hC : 1 ≤ C) : d.toNat ∣ C.toNat := by
  obtain ⟨⟨⟨n0, _, d1, _⟩, g⟩, e⟩ := h
  obtain ⟨a, rfl⟩ := Int.eq_ofNat_of_zero_le n0
  obtain ⟨b, rfl⟩ := Int.eq_ofNat_of_zero_le (show 0 ≤ d by omega)
  obtain ⟨c, rfl⟩ := Int.eq_ofNat_of_zero_le (show 0 ≤ C by omega)
  have hT : 0 ≤ T := by
    have h1 : 0 ≤ T * (b : Int) := by rw [← e]; exact Int.mul_nonneg n0 (by omega)
    exact Int.nonneg_of_mul_nonneg_left h1 (by omega)
  obtain ⟨s, rfl⟩ := Int.eq_ofNat_of_zero_le hT
  have hg' : Nat.gcd a b = 1 := by
    unfold gd at g
    simp only [Int.toNat_natCast] at g
    omega
  have h' : a * c = s * b := by
    have : ((a * c : Nat) : Int) = ((s * b : Nat) : Int) := by rw [Int.natCast_mul, Int.natCast_mul]; exact e
    omega
  simp only [Int.toNat_natCast]
  exact Nat.Coprime.dvd_of_dvd_mul_left (show Nat.Coprime b a by rw [Nat.coprime_comm]; exact hg') ⟨s, by rw [h', Nat.mul_comm]⟩
/-- the sum of two fractions before it is cancelled is small -/
theorem sum_small {n d m e T T' C g s : Int} (h : Vl n d T C) (k : Vl m e T' C) (hC : 1 ≤ C) (hT : 0 ≤ T + T') (hg : gd d e = g) (hs : n * (e / g) + m * (d / g) = s) : s ≤ T + T' := by
  have a1 := den_dvd h hC
  have a2 := den_dvd k hC
  have d1 := h.1.1.2.2.1
  have e1 := k.1.1.2.2.1
  have g1 : 1 ≤ g := by rw [← hg]; exact gd_pos (by omega)
  have q1 : d / g * g = d := by rw [← hg]; exact quot_mul (gd_dvd_left (by omega))
  have q2 : e / g * g = e := by rw [← hg]; exact quot_mul (gd_dvd_right (by omega))
  obtain ⟨x, hx⟩ : ∃ x, d / g = x := ⟨_, rfl⟩
  obtain ⟨y, hy⟩ : ∃ x, e / g = x := ⟨_, rfl⟩
  rw [hx] at q1 hs
  rw [hy] at q2 hs
  have x1 : 1 ≤ x := by
    rcases Int.lt_or_le x 1 with hh | hh
    · have : x * g ≤ 0 := Int.mul_nonpos_of_nonpos_of_nonneg (by omega) (by omega)
      omega
    · exact hh
  have y1 : 1 ≤ y := by
    rcases Int.lt_or_le y 1 with hh | hh
    · have : y * g ≤ 0 := Int.mul_nonpos_of_nonpos_of_nonneg (by omega) (by omega)
      omega
    · exact hh
  -- the least common multiple divides C
  have hl : (x * e).toNat ∣ C.toNat := by
    have hlcm := Nat.lcm_dvd a1 a2
    have e2 : Nat.lcm d.toNat e.toNat = (x * e).toNat := by
      unfold Nat.lcm
      have hgn : (Nat.gcd d.toNat e.toNat : Int) = g := hg
      have : (d.toNat * e.toNat : Nat) = (x * e).toNat * Nat.gcd d.toNat e.toNat := by
        have h1 : ((d.toNat * e.toNat : Nat) : Int) = ((x * e).toNat * Nat.gcd d.toNat e.toNat : Nat) := by
          rw [Int.natCast_mul, Int.natCast_mul, hgn, Int.toNat_of_nonneg (by omega), Int.toNat_of_nonneg (by omega), Int.toNat_of_nonneg (Int.mul_nonneg (by omega) (by omega)), ← q1]
          grind
        omega
      rw [this, Nat.mul_div_cancel _ (Nat.gcd_pos_of_pos_left _ (by omega))]
    rwa [e2] at hlcm
  have hle : x * e ≤ C := by
    have h1 := Nat.le_of_dvd (by omega) hl
    have h2 : 0 ≤ x * e := Int.mul_nonneg (by omega) (by omega)
    omega
  -- s C = (T + T') x e
  have key : s * C = (T + T') * (x * e) := by
    have : s * C * g = (T + T') * (x * e) * g := by
      calc s * C * g = (n * (y * g) + m * (x * g)) * C := by rw [← hs]; grind
        _ = (n * C) * e + (m * C) * d := by rw [q1, q2]; grind
        _ = (T * d) * e + (T' * e) * d := by rw [h.2, k.2]
        _ = (T + T') * (d * e) := by grind
        _ = (T + T') * (x * e) * g := by rw [← q1]; grind
    exact Int.eq_of_mul_eq_mul_right (by omega) this
  have h1 : (T + T') * (x * e) ≤ (T + T') * C := Int.mul_le_mul_of_nonneg_left hle hT
  rw [← key] at h1
  exact Int.le_of_mul_le_mul_right h1 (by omega)
end Go.Proofs.Ytkonknkoggfeaaa.Wi
