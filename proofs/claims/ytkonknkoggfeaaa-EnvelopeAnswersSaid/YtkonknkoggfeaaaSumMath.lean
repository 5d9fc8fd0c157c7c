/- Plain facts about sums of ratios: no program here. -/
import Derived.Test.YtkonknkoggfeaaaRatioMath
namespace Go.Proofs.Ytkonknkoggfeaaa.Ra
set_option linter.unusedVariables false
theorem add_nat (n d m e g x y s c k T : Nat) (hg : g = Nat.gcd d e) (hd : 0 < d) (he : 0 < e) (h1 : Nat.gcd n d = 1) (h2 : Nat.gcd m e = 1) (hy : d = g * y) (hx : e = g * x) (hs : s = n * x + m * y) (hc : c = Nat.gcd (s % g) g)
    (hk : g = c * k) (hT : s = c * T) : Nat.gcd T (y * (k * x)) = 1 ∧ T * (d * e) = (n * e + m * d) * (y * (k * x)) := by
  have hg0 : 0 < g := by rw [hg]; exact Nat.gcd_pos_of_pos_left _ hd
  have hc0 : 0 < c := by rcases Nat.eq_zero_or_pos c with h | h
                         · rw [h] at hk; omega
                         · exact h
  have cyx : Nat.gcd y x = 1 := by
    have := Nat.coprime_div_gcd_div_gcd (m := d) (n := e) (by rw [← hg]; exact hg0)
    rw [← hg] at this
    unfold Nat.Coprime at this
    rwa [show d / g = y by rw [hy]; exact Nat.mul_div_cancel_left _ hg0, show e / g = x by rw [hx]; exact Nat.mul_div_cancel_left _ hg0] at this
  have cny : Nat.Coprime n y := Nat.Coprime.coprime_dvd_right ⟨g, by rw [hy, Nat.mul_comm]⟩ h1
  have cmx : Nat.Coprime m x := Nat.Coprime.coprime_dvd_right ⟨g, by rw [hx, Nat.mul_comm]⟩ h2
  have csy : Nat.Coprime s y := by
    unfold Nat.Coprime
    rw [hs, Nat.gcd_add_mul_right_left]
    exact Nat.Coprime.mul_left cny (Nat.Coprime.symm cyx)
  have csx : Nat.Coprime s x := by
    unfold Nat.Coprime
    rw [hs, Nat.add_comm, Nat.gcd_add_mul_right_left]
    exact Nat.Coprime.mul_left cmx cyx
  have e1 : Nat.gcd s (y * e) = c := by
    rw [Nat.Coprime.gcd_mul_left_cancel_right e (Nat.Coprime.symm csy), hx, Nat.Coprime.gcd_mul_right_cancel_right g (Nat.Coprime.symm csx), hc, Nat.gcd_comm s g, Nat.gcd_rec g s]
  have e2 : y * e = c * (y * (k * x)) := by rw [hx, hk]; grind
  refine ⟨?_, ?_⟩
  · rw [e2, hT, Nat.gcd_mul_left] at e1
    have : c * Nat.gcd T (y * (k * x)) = c * 1 := by omega
    exact Nat.eq_of_mul_eq_mul_left hc0 this
  · have e3 : n * e + m * d = g * s := by rw [hs, hy, hx]; grind
    rw [e3, hT, hy, hx, hk]
    grind
theorem nat_div {a b : Int} (ha : 0 ≤ a) (hb : 0 ≤ b) : (a / b).toNat = a.toNat / b.toNat := by
  obtain ⟨u, rfl⟩ := Int.eq_ofNat_of_zero_le ha
  obtain ⟨v, rfl⟩ := Int.eq_ofNat_of_zero_le hb
  rfl
/-- t / u is the sum, in lowest terms -/
def RSum (n d m e t u : Int) : Prop := 0 ≤ t ∧ 1 ≤ u ∧ gd t u = 1 ∧ t * (d * e) = (n * e + m * d) * u
theorem add_facts {n d m e g s c : Int} (h : RV n d) (k : RV m e) (hg : gd d e = g) (hs : n * (e / g) + m * (d / g) = s) (hc : gd (s % g) g = c) : 1 ≤ g ∧ 1 ≤ c ∧ c ≤ g ∧ 0 ≤ s ∧ RSum n d m e (s / c) (d / g * (e / c)) := by
  obtain ⟨⟨n0, _, d0, _⟩, h1⟩ := h
  obtain ⟨⟨m0, _, e0, _⟩, h2⟩ := k
  obtain ⟨N, rfl⟩ := Int.eq_ofNat_of_zero_le n0
  obtain ⟨D, rfl⟩ := Int.eq_ofNat_of_zero_le (show 0 ≤ d by omega)
  obtain ⟨M, rfl⟩ := Int.eq_ofNat_of_zero_le m0
  obtain ⟨E, rfl⟩ := Int.eq_ofNat_of_zero_le (show 0 ≤ e by omega)
  have hD : 0 < D := by omega
  have hE : 0 < E := by omega
  obtain ⟨G, hG⟩ : ∃ G : Nat, G = Nat.gcd D E := ⟨_, rfl⟩
  have hgG : g = (G : Int) := by rw [← hg, hG]; rfl
  subst hgG
  have hG0 : 0 < G := by rw [hG]; exact Nat.gcd_pos_of_pos_left _ hD
  obtain ⟨y, hy⟩ : G ∣ D := by rw [hG]; exact Nat.gcd_dvd_left _ _
  obtain ⟨x, hx⟩ : G ∣ E := by rw [hG]; exact Nat.gcd_dvd_right _ _
  have ex : (E : Int) / (G : Int) = (x : Int) := by rw [hx, Int.natCast_mul, Int.mul_ediv_cancel_left _ (by omega)]
  have ey : (D : Int) / (G : Int) = (y : Int) := by rw [hy, Int.natCast_mul, Int.mul_ediv_cancel_left _ (by omega)]
  rw [ex, ey] at hs
  rw [ey]
  obtain ⟨S, hS⟩ : ∃ S : Nat, S = N * x + M * y := ⟨_, rfl⟩
  have hsS : s = (S : Int) := by rw [← hs, hS]; simp
  subst hsS
  obtain ⟨C, hC⟩ : ∃ C : Nat, C = Nat.gcd (S % G) G := ⟨_, rfl⟩
  have hcC : c = (C : Int) := by
    rw [← hc, hC]
    unfold gd
    rw [show ((S : Int) % (G : Int)).toNat = S % G by rw [← Int.natCast_emod, Int.toNat_natCast], Int.toNat_natCast]
  subst hcC
  have hC0 : 0 < C := by rw [hC]; exact Nat.gcd_pos_of_pos_right _ hG0
  obtain ⟨q, hq⟩ : C ∣ G := by rw [hC]; exact Nat.gcd_dvd_right _ _
  obtain ⟨T, hT⟩ : C ∣ S := by
    have h1 : C ∣ S % G := by rw [hC]; exact Nat.gcd_dvd_left _ _
    exact (Nat.dvd_mod_iff ⟨q, hq⟩).1 h1
  have key := add_nat N D M E G x y S C q T hG hD hE (by unfold gd at h1; simp at h1; exact_mod_cast h1) (by unfold gd at h2; simp at h2; exact_mod_cast h2) hy hx hS hC hq hT
  have eT : (S : Int) / (C : Int) = (T : Int) := by rw [hT, Int.natCast_mul, Int.mul_ediv_cancel_left _ (by omega)]
  have eE : (E : Int) / (C : Int) = ((q * x : Nat) : Int) := by
    rw [hx, hq, Nat.mul_assoc, Int.natCast_mul, Int.mul_ediv_cancel_left _ (by omega)]
  rw [eT, eE]
  have hy0 : 0 < y := by rcases Nat.eq_zero_or_pos y with h | h
                         · rw [h] at hy; omega
                         · exact h
  have hq0 : 0 < q * x := by
    rcases Nat.eq_zero_or_pos (q * x) with h | h
    · have : E = C * (q * x) := by rw [hx, hq, Nat.mul_assoc]
      rw [h] at this; omega
    · exact h
  have hU : 0 < y * (q * x) := Nat.mul_pos hy0 hq0
  refine ⟨by omega, by omega, by have := Nat.le_of_dvd hG0 ⟨q, hq⟩; omega, by omega, by omega, ?_, ?_, ?_⟩
  · rw [← Int.natCast_mul]; omega
  · unfold gd
    rw [← Int.natCast_mul, Int.toNat_natCast, Int.toNat_natCast, key.1]
    rfl
  · have := congrArg (fun n : Nat => (n : Int)) key.2
    simpa using this
/-- what Add returns -/
noncomputable def radd (n d m e : Int) : Int × Int × Int :=
  if rv n d = true ∧ rv m e = true then
    (if (n * (e / gd d e) + m * (d / gd d e)) / gd ((n * (e / gd d e) + m * (d / gd d e)) % gd d e) (gd d e) ≤ 2305843009213693952 ∧ d / gd d e * (e / gd ((n * (e / gd d e) + m * (d / gd d e)) % gd d e) (gd d e)) ≤ 1152921504606846976 then
      ((n * (e / gd d e) + m * (d / gd d e)) / gd ((n * (e / gd d e) + m * (d / gd d e)) % gd d e) (gd d e), d / gd d e * (e / gd ((n * (e / gd d e) + m * (d / gd d e)) % gd d e) (gd d e)), 0) else (0, 0, 4))
  else (0, 0, 1)
theorem rsum_same {n d m e t u t' u' : Int} (hd : 1 ≤ d) (he : 1 ≤ e) (h : RSum n d m e t u) (k : RSum n d m e t' u') : t = t' ∧ u = u' := by
  obtain ⟨t0, u0, hg, h1⟩ := h
  obtain ⟨t0', u0', hg', h2⟩ := k
  have hde : 0 < d * e := Int.mul_pos (by omega) (by omega)
  have hx : t * u' = t' * u := by
    apply Int.eq_of_mul_eq_mul_right (show d * e ≠ 0 by omega)
    have a1 : t * u' * (d * e) = t * (d * e) * u' := by grind
    have a2 : t' * u * (d * e) = t' * (d * e) * u := by grind
    rw [a1, a2, h1, h2]
    grind
  obtain ⟨x, rfl⟩ := Int.eq_ofNat_of_zero_le t0
  obtain ⟨y, rfl⟩ := Int.eq_ofNat_of_zero_le (show 0 ≤ u by omega)
  obtain ⟨x', rfl⟩ := Int.eq_ofNat_of_zero_le t0'
  obtain ⟨y', rfl⟩ := Int.eq_ofNat_of_zero_le (show 0 ≤ u' by omega)
  have hn : x * y' = x' * y := by exact_mod_cast hx
  have g1 : Nat.gcd x y = 1 := by unfold gd at hg; simp at hg; exact_mod_cast hg
  have g2 : Nat.gcd x' y' = 1 := by unfold gd at hg'; simp at hg'; exact_mod_cast hg'
  have d1 : y ∣ y' := Nat.Coprime.dvd_of_dvd_mul_left (k := y) (m := x) (Nat.Coprime.symm g1) (by rw [hn]; exact Nat.dvd_mul_left _ _)
  have d2 : y' ∣ y := Nat.Coprime.dvd_of_dvd_mul_left (k := y') (m := x') (Nat.Coprime.symm g2) (by rw [← hn]; exact Nat.dvd_mul_left _ _)
  have hv : y = y' := Nat.dvd_antisymm d1 d2
  subst hv
  have : x = x' := Nat.eq_of_mul_eq_mul_right (by omega) hn
  exact ⟨by rw [this], rfl⟩
/-- what is known of what Add returns, for valid ratios -/
theorem radd_in {n d m e : Int} (h : RV n d) (k : RV m e) : ∃ t u, RSum n d m e t u ∧ radd n d m e = if t ≤ 2305843009213693952 ∧ u ≤ 1152921504606846976 then (t, u, 0) else (0, 0, 4) := by
  refine ⟨_, _, (add_facts h k rfl rfl rfl).2.2.2.2, ?_⟩
  unfold radd
  rw [if_pos ⟨rv_yes h, rv_yes k⟩]
theorem radd_out {n d m e : Int} (h : rv n d = false ∨ rv m e = false) : radd n d m e = (0, 0, 1) := by
  unfold radd
  rw [if_neg]
  rintro ⟨a, b⟩
  rcases h with h | h
  · rw [h] at a; cases a
  · rw [h] at b; cases b
theorem radd_comm {n d m e : Int} (h : RV n d) (k : RV m e) : radd m e n d = radd n d m e := by
  obtain ⟨t, u, h1, h2⟩ := radd_in h k
  obtain ⟨t', u', k1, k2⟩ := radd_in k h
  have : RSum n d m e t' u' := ⟨k1.1, k1.2.1, k1.2.2.1, by have := k1.2.2.2; rw [Int.mul_comm d e, this, Int.add_comm]⟩
  obtain ⟨rfl, rfl⟩ := rsum_same h.1.2.2.1 k.1.2.2.1 this h1
  rw [h2, k2]
theorem radd_zero {n d : Int} (h : RV n d) : radd n d 0 1 = (n, d, 0) := by
  obtain ⟨t, u, h1, h2⟩ := radd_in h (m := 0) (e := 1) ⟨⟨by omega, by omega, by omega, by omega⟩, by decide⟩
  have : RSum n d 0 1 n d := ⟨h.1.1, h.1.2.2.1, h.2, by grind⟩
  obtain ⟨rfl, rfl⟩ := rsum_same h.1.2.2.1 (by omega) h1 this
  rw [h2, if_pos ⟨h.1.2.1, h.1.2.2.2⟩]
/-- an answer without an error is the sum, and valid -/
theorem radd_ok {n d m e : Int} (h : (radd n d m e).2.2 = 0) : RV n d ∧ RV m e ∧ RV (radd n d m e).1 (radd n d m e).2.1 ∧ (radd n d m e).1 * (d * e) = (n * e + m * d) * (radd n d m e).2.1 := by
  rcases Classical.em (RV n d) with a | a
  · rcases Classical.em (RV m e) with b | b
    · obtain ⟨t, u, h1, h2⟩ := radd_in a b
      rw [h2] at h ⊢
      split at h
      · rename_i hl
        rw [if_pos hl]
        exact ⟨a, b, ⟨⟨h1.1, hl.1, h1.2.1, hl.2⟩, h1.2.2.1⟩, h1.2.2.2⟩
      · simp at h
    · rw [radd_out (.inr (rv_no b))] at h; simp at h
  · rw [radd_out (.inl (rv_no a))] at h; simp at h
theorem radd_bad {n d m e : Int} (h : (radd n d m e).2.2 ≠ 0) : (radd n d m e).1 = 0 ∧ (radd n d m e).2.1 = 0 := by
  rcases Classical.em (RV n d) with a | a
  · rcases Classical.em (RV m e) with b | b
    · obtain ⟨t, u, h1, h2⟩ := radd_in a b
      rw [h2] at h ⊢
      split at h
      · simp at h
      · rename_i hl
        rw [if_neg hl]; exact ⟨rfl, rfl⟩
    · rw [radd_out (.inr (rv_no b))]; exact ⟨rfl, rfl⟩
  · rw [radd_out (.inl (rv_no a))]; exact ⟨rfl, rfl⟩
/-- the sum is associative where it stays within the limits -/
theorem radd_assoc {an ad bn bd cn cd xn xd un ud vn vd wn wd : Int} (hx : RV xn xd) (hv : RV vn vd) (hu : RV un ud) (hw : RV wn wd) (ha : 1 ≤ ad) (hb : 1 ≤ bd) (hc : 1 ≤ cd)
    (e1 : xn * (ad * bd) = (an * bd + bn * ad) * xd) (e2 : un * (xd * cd) = (xn * cd + cn * xd) * ud) (e3 : vn * (bd * cd) = (bn * cd + cn * bd) * vd) (e4 : wn * (ad * vd) = (an * vd + vn * ad) * wd) : un = wn ∧ ud = wd := by
  refine rv_eq hu hw ?_
  have x1 := hx.1.2.2.1
  have v1 := hv.1.2.2.1
  -- un / ud = N / P and wn / wd = N / P, where P = ad * bd * cd
  have p1 : un * (ad * bd * cd) = (an * bd * cd + bn * ad * cd + cn * ad * bd) * ud := by
    apply Int.eq_of_mul_eq_mul_right (show xd ≠ 0 by omega)
    have a1 : un * (ad * bd * cd) * xd = un * (xd * cd) * (ad * bd) := by grind
    have a2 : (xn * cd + cn * xd) * ud * (ad * bd) = (xn * (ad * bd)) * cd * ud + cn * xd * ud * (ad * bd) := by grind
    rw [a1, e2, a2, e1]
    grind
  have p2 : wn * (ad * bd * cd) = (an * bd * cd + bn * ad * cd + cn * ad * bd) * wd := by
    apply Int.eq_of_mul_eq_mul_right (show vd ≠ 0 by omega)
    have a1 : wn * (ad * bd * cd) * vd = wn * (ad * vd) * (bd * cd) := by grind
    have a2 : (an * vd + vn * ad) * wd * (bd * cd) = an * vd * wd * (bd * cd) + (vn * (bd * cd)) * ad * wd := by grind
    rw [a1, e4, a2, e3]
    grind
  have hp : ad * bd * cd ≠ 0 := Int.mul_ne_zero (Int.mul_ne_zero (by omega) (by omega)) (by omega)
  apply Int.eq_of_mul_eq_mul_right hp
  have a1 : un * wd * (ad * bd * cd) = un * (ad * bd * cd) * wd := by grind
  have a2 : wn * ud * (ad * bd * cd) = wn * (ad * bd * cd) * ud := by grind
  rw [a1, a2, p1, p2]
  grind
/-- the sum keeps the order -/
theorem radd_order {an ad bn bd cn cd sn sd vn vd : Int} (ha : RV an ad) (hb : RV bn bd) (hc : 1 ≤ cd) (hs : RV sn sd) (hv : RV vn vd)
    (e1 : sn * (ad * cd) = (an * cd + cn * ad) * sd) (e2 : vn * (bd * cd) = (bn * cd + cn * bd) * vd) : rcmp sn sd vn vd = rcmp an ad bn bd := by
  rw [rcmp_in (rv_yes hs) (rv_yes hv), rcmp_in (rv_yes ha) (rv_yes hb)]
  have a1 := ha.1.2.2.1
  have b1 := hb.1.2.2.1
  have s1 := hs.1.2.2.1
  have v1 := hv.1.2.2.1
  -- sn * vd - vn * sd = (an * bd - bn * ad) * (sd * vd) / (ad * bd)
  have key : (sn * vd - vn * sd) * (ad * bd * cd) = (an * bd - bn * ad) * (sd * vd * cd) := by
    have p1 : (sn * vd - vn * sd) * (ad * bd * cd) = sn * (ad * cd) * (vd * bd) - vn * (bd * cd) * (sd * ad) := by grind
    rw [p1, e1, e2]
    grind
  have k1 : 0 < ad * bd * cd := Int.mul_pos (Int.mul_pos (by omega) (by omega)) (by omega)
  have k2 : 0 < sd * vd * cd := Int.mul_pos (Int.mul_pos (by omega) (by omega)) (by omega)
  have sg : ∀ {p q x y : Int}, 0 < x → 0 < y → p * x = q * y → (p < 0 ↔ q < 0) ∧ (0 < p ↔ 0 < q) := by
    intro p q x y hx hy h
    have n1 : ∀ {r z : Int}, 0 < z → (r < 0 → r * z < 0) ∧ (0 < r → 0 < r * z) ∧ (r = 0 → r * z = 0) := fun {r z} hz =>
      ⟨fun hr => Int.mul_neg_of_neg_of_pos hr hz, fun hr => Int.mul_pos hr hz, fun hr => by rw [hr]; simp⟩
    have m1 := n1 (r := p) hx
    have m2 := n1 (r := q) hy
    rcases Int.lt_trichotomy p 0 with a | a | a <;> rcases Int.lt_trichotomy q 0 with b | b | b <;> constructor <;> constructor <;> intro _ <;> first | omega | (have := m1.1 ‹_›; have := m2.1 ‹_›; omega) | (have := m1.1 a; have := m2.2.1 b; omega) | (have := m1.1 a; have := m2.2.2 b; omega) | (have := m1.2.1 a; have := m2.1 b; omega) | (have := m1.2.1 a; have := m2.2.2 b; omega) | (have := m1.2.2 a; have := m2.1 b; omega) | (have := m1.2.2 a; have := m2.2.1 b; omega)
  obtain ⟨h1, h2⟩ := sg k1 k2 key
  unfold cmpI
  rcases Int.lt_trichotomy (an * bd) (bn * ad) with h | h | h
  · rw [if_pos h, if_pos (by omega)]
  · rw [if_neg (by omega), if_neg (by omega), if_neg (by omega), if_neg (by omega)]
  · rw [if_neg (by omega), if_pos (by omega), if_neg (by omega), if_pos h]
/-- a sum is not less than its first part -/
theorem radd_ge {an ad bn bd xn xd : Int} (ha : RV an ad) (hb : RV bn bd) (hx : RV xn xd) (e1 : xn * (ad * bd) = (an * bd + bn * ad) * xd) : decide (rcmp xn xd an ad < 0) = false := by
  rw [rcmp_in (rv_yes hx) (rv_yes ha)]
  refine cmpI_ge ?_
  have a1 := ha.1.2.2.1
  have b0 := hb.1.1
  have b1 := hb.1.2.2.1
  have x1 := hx.1.2.2.1
  apply Int.le_of_mul_le_mul_right (a := bd) _ (by omega)
  have p1 : xn * ad * bd = xn * (ad * bd) := by grind
  have p2 : 0 ≤ bn * ad * xd := Int.mul_nonneg (Int.mul_nonneg b0 (by omega)) (by omega)
  rw [p1, e1]
  have p3 : (an * bd + bn * ad) * xd = an * xd * bd + bn * ad * xd := by grind
  omega
end Go.Proofs.Ytkonknkoggfeaaa.Ra
