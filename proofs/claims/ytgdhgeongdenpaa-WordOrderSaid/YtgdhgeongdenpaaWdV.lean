/- word.Cmp of full words; shapesearchref19.Same of any two words of equal length. -/
import Derived.Test.YtgdhgeongdenpaaWdS
import Derived.Test.YtgdhgeongdenpaaWd10
namespace Go.Proofs.Ytgdhgeongdenpaa.Wd
open Go.ChangeShapes Go.WideShapes Go.RowKit Wo Sr Wi Ms
set_option linter.unusedVariables false
set_option linter.unusedSimpArgs false
/-- the number of the first i bits -/
def pv (f : Nat → Nat) : Nat → Nat
  | 0 => 0
  | i + 1 => 2 * pv f i + f i
theorem pv_lt {f : Nat → Nat} (h : ∀ i, f i < 2) : ∀ i, pv f i < 2 ^ i
  | 0 => by show 0 < 1; decide
  | i + 1 => by
    have := pv_lt h i
    have := h i
    unfold pv
    rw [Nat.pow_succ]
    omega
theorem pv_div {f : Nat → Nat} (h : ∀ i, f i < 2) (j : Nat) : ∀ d, pv f (j + d) / 2 ^ d = pv f j
  | 0 => by simp
  | d + 1 => by
    have e : pv f (j + (d + 1)) = 2 * pv f (j + d) + f (j + d) := rfl
    have := h (j + d)
    rw [e, show 2 ^ (d + 1) = 2 * 2 ^ d by rw [Nat.pow_succ, Nat.mul_comm], ← Nat.div_div_eq_div_mul, show (2 * pv f (j + d) + f (j + d)) / 2 = pv f (j + d) by omega]
    exact pv_div h j d
theorem pv_inj {f g : Nat → Nat} (hf : ∀ i, f i < 2) (hg : ∀ i, g i < 2) : ∀ j, pv f j = pv g j → ∀ i, i < j → f i = g i
  | 0, _, i, hi => by omega
  | j + 1, h, i, hi => by
    have e1 : 2 * pv f j + f j = 2 * pv g j + g j := h
    have := hf j
    have := hg j
    rcases Nat.lt_or_ge i j with q | q
    · exact pv_inj hf hg j (by omega) i q
    · obtain rfl : i = j := by omega
      omega
theorem pv_congr {f g : Nat → Nat} : ∀ j, (∀ i, i < j → f i = g i) → pv f j = pv g j
  | 0, _ => rfl
  | j + 1, h => by
    show 2 * pv f j + f j = 2 * pv g j + g j
    rw [pv_congr j (fun i hi => h i (by omega)), h j (by omega)]
theorem pv_mid {f g h : Nat → Nat} (hf : ∀ i, f i < 2) (hg : ∀ i, g i < 2) (hh : ∀ i, h i < 2) (N j : Nat) (hj : j ≤ N) (h1 : pv f N ≤ pv g N) (h2 : pv g N ≤ pv h N) (he : ∀ i, i < j → f i = h i) : ∀ i, i < j → f i = g i := by
  obtain ⟨d, rfl⟩ := Nat.exists_eq_add_of_le hj
  have a1 := Nat.div_le_div_right (c := 2 ^ d) h1
  have a2 := Nat.div_le_div_right (c := 2 ^ d) h2
  rw [pv_div hf, pv_div hg] at a1
  rw [pv_div hg, pv_div hh] at a2
  have e := pv_congr j he
  exact pv_inj hf hg j (by omega)
/-- a bit of a full word, the highest ones of all pieces first -/
def fb (n : Nat) (S : List Int) (i : Nat) : Nat := (S.getD (i % n) 0).toNat / 2 ^ (3 - i / n) % 2
theorem fb_two (n : Nat) (S : List Int) (i : Nat) : fb n S i < 2 := Nat.mod_lt _ (by decide)
theorem fb_at (n r p : Nat) (S : List Int) (hp : p < n) : fb n S (r * n + p) = (S.getD p 0).toNat / 2 ^ (3 - r) % 2 := by
  unfold fb
  rw [show (r * n + p) % n = p by rw [Nat.add_comm, Nat.add_mul_mod_self_right, Nat.mod_eq_of_lt hp], show (r * n + p) / n = r by rw [Nat.add_comm, Nat.add_mul_div_right _ _ (by omega), Nat.div_eq_of_lt hp, Nat.zero_add]]
/-- the number by which full words are ordered -/
def shf (n : Nat) (S : List Int) : Nat := pv (fb n S) (4 * n)
theorem shf_lt {n : Nat} (S : List Int) (hn : n ≤ 8) (i : Nat) (hi : i ≤ 4 * n) : pv (fb n S) i < 4294967296 := by
  have h1 := pv_lt (fb_two n S) i
  have h2 : (2 : Nat) ^ i ≤ 2 ^ 32 := Nat.pow_le_pow_right (by decide) (by omega)
  have : (2 : Nat) ^ 32 = 4294967296 := by decide
  omega
theorem top_eq {s t : Int} {b : Nat} (s0 : 0 ≤ s) (s1 : s < 16) (t0 : 0 ≤ t) (t1 : t < 16) (hb : b ≤ 4) : s / 2 ^ (4 - b) = t / 2 ^ (4 - b) ↔ ∀ r, r < b → s.toNat / 2 ^ (3 - r) % 2 = t.toNat / 2 ^ (3 - r) % 2 := by
  obtain ⟨x, rfl⟩ := Int.eq_ofNat_of_zero_le s0
  obtain ⟨y, rfl⟩ := Int.eq_ofNat_of_zero_le t0
  simp only [Int.toNat_natCast]
  rcases (by omega : b = 0 ∨ b = 1 ∨ b = 2 ∨ b = 3 ∨ b = 4) with rfl | rfl | rfl | rfl | rfl
  · simp; omega
  · constructor
    · intro h r hr
      obtain rfl : r = 0 := by omega
      simp at h ⊢; omega
    · intro h
      have h0 := h 0 (by decide)
      simp at h0 ⊢; omega
  · constructor
    · intro h r hr
      rcases (by omega : r = 0 ∨ r = 1) with rfl | rfl <;> simp at h ⊢ <;> omega
    · intro h
      have h0 := h 0 (by decide)
      have h1 := h 1 (by decide)
      simp at h0 h1 ⊢; omega
  · constructor
    · intro h r hr
      rcases (by omega : r = 0 ∨ r = 1 ∨ r = 2) with rfl | rfl | rfl <;> simp at h ⊢ <;> omega
    · intro h
      have h0 := h 0 (by decide)
      have h1 := h 1 (by decide)
      have h2 := h 2 (by decide)
      simp at h0 h1 h2 ⊢; omega
  · constructor
    · intro h r hr
      rcases (by omega : r = 0 ∨ r = 1 ∨ r = 2 ∨ r = 3) with rfl | rfl | rfl | rfl <;> simp at h ⊢ <;> omega
    · intro h
      have h0 := h 0 (by decide)
      have h1 := h 1 (by decide)
      have h2 := h 2 (by decide)
      have h3 := h 3 (by decide)
      simp at h0 h1 h2 h3 ⊢; omega
theorem list_ext {n : Nat} {F G : List Int} (lF : F.length = n) (lG : G.length = n) (h : ∀ p, p < n → F.getD p 0 = G.getD p 0) : F = G := by
  apply List.ext_getElem (by omega)
  intro i h1 h2
  have := h i (by omega)
  rw [List.getD_eq_getElem?_getD, List.getD_eq_getElem?_getD, List.getElem?_eq_getElem h1, List.getElem?_eq_getElem h2] at this
  exact this
theorem shf_inj {n : Nat} {F G : List Int} (lF : F.length = n) (lG : G.length = n) (hF : ∀ p, p < n → 0 ≤ F.getD p 0 ∧ F.getD p 0 < 16) (hG : ∀ p, p < n → 0 ≤ G.getD p 0 ∧ G.getD p 0 < 16) (h : shf n F = shf n G) : F = G := by
  apply list_ext lF lG
  intro p hp
  have hb := pv_inj (fb_two n F) (fb_two n G) _ h
  have a := hF p hp
  have b := hG p hp
  have key := (top_eq (b := 4) a.1 a.2 b.1 b.2 (by decide)).2 (fun r hr => by
    have hlt : r * n + p < 4 * n := by
      have : r * n ≤ 3 * n := Nat.mul_le_mul_right _ (by omega)
      omega
    have := hb (r * n + p) hlt
    rw [fb_at n r p F hp, fb_at n r p G hp] at this
    exact this)
  simpa using key
/-- the bits of a node: so many in each piece, one more in the first ones -/
def nb (k mo p : Nat) : Nat := if p < mo ∧ k < 4 then k + 1 else k
theorem node_mid {n k mo : Nat} {F G H : List Int} (hn : 1 ≤ n) (hk : k ≤ 4) (hmo : mo ≤ n) (hF : ∀ p, p < n → 0 ≤ F.getD p 0 ∧ F.getD p 0 < 16) (hG : ∀ p, p < n → 0 ≤ G.getD p 0 ∧ G.getD p 0 < 16) (hH : ∀ p, p < n → 0 ≤ H.getD p 0 ∧ H.getD p 0 < 16)
    (h1 : shf n F ≤ shf n G) (h2 : shf n G ≤ shf n H) (hb : ∀ p, p < n → H.getD p 0 / 2 ^ (4 - nb k mo p) = F.getD p 0 / 2 ^ (4 - nb k mo p)) : ∀ p, p < n → G.getD p 0 / 2 ^ (4 - nb k mo p) = F.getD p 0 / 2 ^ (4 - nb k mo p) := by
  have nb4 : ∀ p, nb k mo p ≤ 4 := fun p => by unfold nb; split <;> omega
  obtain ⟨j, hj⟩ : ∃ j, (if k < 4 then k * n + mo else k * n) = j := ⟨_, rfl⟩
  have hjN : j ≤ 4 * n := by
    rw [← hj]
    split
    · have : k * n ≤ 3 * n := Nat.mul_le_mul_right _ (by omega)
      omega
    · exact Nat.mul_le_mul_right _ hk
  have inside : ∀ r p, p < n → r < nb k mo p → r * n + p < j := fun r p hp hr => by
    rw [← hj]
    unfold nb at hr
    by_cases hk4 : k < 4
    · rw [if_pos hk4]
      by_cases hpm : p < mo
      · rw [if_pos ⟨hpm, hk4⟩] at hr
        rcases Nat.lt_or_ge r k with q | q
        · have : (r + 1) * n ≤ k * n := Nat.mul_le_mul_right _ (by omega)
          rw [Nat.succ_mul] at this
          omega
        · obtain rfl : r = k := by omega
          omega
      · rw [if_neg (fun h => hpm h.1)] at hr
        have : (r + 1) * n ≤ k * n := Nat.mul_le_mul_right _ (by omega)
        rw [Nat.succ_mul] at this
        omega
    · rw [if_neg hk4]
      rw [if_neg (fun h => hk4 h.2)] at hr
      have : (r + 1) * n ≤ k * n := Nat.mul_le_mul_right _ (by omega)
      rw [Nat.succ_mul] at this
      omega
  have back : ∀ i, i < j → i % n < n ∧ i / n < nb k mo (i % n) := fun i hi => by
    have hm := Nat.mod_lt i hn
    refine ⟨hm, ?_⟩
    rw [← hj] at hi
    have hd := Nat.div_add_mod i n
    rw [Nat.mul_comm] at hd
    unfold nb
    by_cases hk4 : k < 4
    · rw [if_pos hk4] at hi
      rcases Nat.lt_or_ge (i / n) k with q | q
      · split <;> omega
      · rcases Nat.lt_or_ge k (i / n) with q2 | q2
        · have : (k + 1) * n ≤ i / n * n := Nat.mul_le_mul_right _ (by omega)
          rw [Nat.succ_mul] at this
          omega
        · have e : i / n = k := by omega
          rw [e] at hd
          rw [if_pos ⟨by omega, hk4⟩, e]
          omega
    · rw [if_neg hk4] at hi
      rw [if_neg (fun h => hk4 h.2)]
      exact (Nat.div_lt_iff_lt_mul hn).2 hi
  have he : ∀ i, i < j → fb n F i = fb n H i := fun i hi => by
    obtain ⟨b1, b2⟩ := back i hi
    have a := hF _ b1
    have c := hH _ b1
    have := (top_eq a.1 a.2 c.1 c.2 (nb4 _)).1 (hb _ b1).symm _ b2
    exact this
  have hm := pv_mid (fb_two n F) (fb_two n G) (fb_two n H) (4 * n) j hjN h1 h2 he
  intro p hp
  have a := hF p hp
  have c := hG p hp
  refine ((top_eq a.1 a.2 c.1 c.2 (nb4 p)).2 (fun r hr => ?_)).symm
  have := hm (r * n + p) (inside r p hp hr)
  rw [fb_at n r p F hp, fb_at n r p G hp] at this
  exact this
end Go.Proofs.Ytgdhgeongdenpaa.Wd
