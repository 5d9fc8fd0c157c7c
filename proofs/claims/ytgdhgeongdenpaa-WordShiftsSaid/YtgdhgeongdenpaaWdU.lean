/- Plain facts of WordShifts: the coordinates of shifted and scaled windows. -/
import Derived.Test.YtgdhgeongdenpaaWdT
import Derived.Test.YtgdhgeongdenpaaWd15
namespace Go.Proofs.Ytgdhgeongdenpaa.Wd
open Go.ChangeShapes Go.WideShapes Go.RowKit Wo Sr Wi Ms Pc Nr Rt
set_option linter.unusedVariables false
set_option linter.unusedSimpArgs false
theorem pg_af (s : Int) (X : List Int) (a b : Nat) : pg (af s 0 X) a b = s * pg X a b := by
  unfold pg af
  rw [← List.map_drop, ← List.map_take]
  have := af_su s 0 ((X.drop a).take (b - a))
  unfold af at this
  have e : ∀ Y : List Int, su id Y = su ix Y := fun _ => rfl
  rw [e, e, this]
  simp
theorem pls_af (s : Int) (X : List Int) (m n p : Nat) (hp : p < n) : (pls (af s 0 X) m n).getD p 0 = s * (pls X m n).getD p 0 := by
  rw [pls_at _ _ _ _ hp, pls_at _ _ _ _ hp, pg_af]
theorem cen_af (s t : Int) (X : List Int) : cen (af s t X) = af s 0 (cen X) := by
  have h1 := af_su s t X
  have h2 := af_len s t X
  unfold cen
  rw [h1, h2]
  unfold af
  rw [List.map_map, List.map_map]
  apply List.map_congr_left
  intro a _
  show (a * s + t) * (X.length : Int) + -(s * su ix X + (X.length : Int) * t) = (a * (X.length : Int) + -su ix X) * s + 0
  grind
theorem cdl_two (b : Int) (X : List Int) (m n p : Nat) (hp : p < n) : cdl 2 (af 1 b X) m n p = cdl 2 X m n p := by
  unfold cdl
  rw [if_pos rfl, if_pos rfl, cen_af, pls_af _ _ _ _ _ hp, Int.one_mul]
theorem cdl_three {s b : Int} {X : List Int} {m n p : Nat} (hs : 1 ≤ s) (hX : Sam X) (hA : Sam (af s b X)) (hl : X.length = m) (m2 : 2 ≤ m) (m32 : m ≤ 32) (n1 : 1 ≤ n) (hp : p < n) : cdl 3 (af s b X) m n p = cdl 3 X m n p := by
  have hl2 : (af s b X).length = m := by rw [af_len]; exact hl
  have c1 := Pc.pls_bd (m := m) (n := n) (Pc.cen_bd hX (by omega)) m32 n1 p hp
  have c2 := Pc.pls_bd (m := m) (n := n) (Pc.cen_bd hA (by omega)) m32 n1 p hp
  have v1 := vr_le hX (by omega)
  have v2 := vr_le hA (by omega)
  rw [← pr_self] at v1 v2
  unfold cdl
  have n32 : ¬ (3 : Int) = 2 := by decide
  simp only [if_neg n32, if_true]
  rw [cen_af, pls_af _ _ _ _ _ hp] at c2 ⊢
  have ep := af_pr s b s b X X rfl
  rw [ep] at v2 ⊢
  obtain ⟨T, hT⟩ : ∃ T, (pls (cen X) m n).getD p 0 = T := ⟨_, rfl⟩
  obtain ⟨V, hV⟩ : ∃ V, pr X X = V := ⟨_, rfl⟩
  rw [hT] at c1 c2 ⊢
  rw [hV] at v1 v2 ⊢
  have e1 : 64 * (s * T) = (64 * T) * s := by grind
  have e2 : (m : Int) * (s * s * V) = ((m : Int) * V) * s * s := by grind
  have ss : 1 ≤ s * s := by have := Int.mul_le_mul hs hs (by decide) (by omega); omega
  have hiff : QIn (64 * (s * T)) ((m : Int) * (s * s * V)) ↔ QIn (64 * T) ((m : Int) * V) := by
    have b1 : (m : Int) * V ≤ 32 * 1024000000 := Int.mul_le_mul (by omega) v1.2 v1.1 (by decide)
    have b2 : (m : Int) * (s * s * V) ≤ 32 * 1024000000 := Int.mul_le_mul (by omega) v2.2 v2.1 (by decide)
    have k1 : 1 ≤ (m : Int) * V ↔ 1 ≤ V := by
      constructor
      · intro h
        rcases Int.lt_or_le V 1 with g | g
        · have : V = 0 := by omega
          rw [this] at h; simp at h
        · exact g
      · intro h
        have := Int.mul_le_mul (show (1 : Int) ≤ (m : Int) by omega) h (by decide) (by omega)
        omega
    have k2 : 1 ≤ (m : Int) * (s * s * V) ↔ 1 ≤ V := by
      constructor
      · intro h
        rcases Int.lt_or_le V 1 with g | g
        · have : V = 0 := by omega
          rw [this] at h; simp at h
        · exact g
      · intro h
        have h1 := Int.mul_le_mul ss h (by decide) (by omega)
        have := Int.mul_le_mul (show (1 : Int) ≤ (m : Int) by omega) (show (1 : Int) ≤ s * s * V by omega) (by decide) (by omega)
        omega
    unfold QIn
    rw [k1, k2]
    constructor
    · rintro ⟨_, _, h, _⟩; exact ⟨by omega, by omega, h, by omega⟩
    · rintro ⟨_, _, h, _⟩; exact ⟨by omega, by omega, h, by omega⟩
  by_cases h : QIn (64 * T) ((m : Int) * V)
  · rw [if_pos h, if_pos (hiff.2 h), e1, e2, quo_scale hs]
  · rw [if_neg h, if_neg (fun g => h (hiff.1 g))]
theorem cds_two (b : Int) (X : List Int) (m n : Nat) : cds 2 (af 1 b X) m n = cds 2 X m n := by
  unfold cds
  exact List.map_congr_left fun p hp => cdl_two b X m n p (by simpa using hp)
theorem cds_three {s b : Int} {X : List Int} {m n : Nat} (hs : 1 ≤ s) (hX : Sam X) (hA : Sam (af s b X)) (hl : X.length = m) (m2 : 2 ≤ m) (m32 : m ≤ 32) (n1 : 1 ≤ n) : cds 3 (af s b X) m n = cds 3 X m n := by
  unfold cds
  exact List.map_congr_left fun p hp => cdl_three hs hX hA hl m2 m32 n1 (by simpa using hp)
/-- a fifth -/
def fth (a : Int) : Int := a.tdiv 5
theorem fth_in {a : Int} (h0 : -1000 ≤ a) (h1 : a ≤ 1000) : -200 ≤ fth a ∧ fth a ≤ 200 := by
  unfold fth
  rcases Int.lt_or_le a 0 with h | h
  · have e : a.tdiv 5 = -((-a).tdiv 5) := by rw [Int.neg_tdiv, Int.neg_neg]
    rw [e, Int.tdiv_eq_ediv_of_nonneg (by omega)]
    omega
  · rw [Int.tdiv_eq_ediv_of_nonneg (by omega)]
    omega
/-- the first t numbers divided -/
def mq (L : List Int) (t : Nat) : List Int := (L.map fth).take t ++ L.drop t
theorem mq_len (L : List Int) (t : Nat) : (mq L t).length = L.length := by simp [mq]; omega
theorem mq_zero (L : List Int) : mq L 0 = L := by simp [mq]
theorem mq_all (L : List Int) : mq L L.length = L.map fth := by simp [mq, List.take_of_length_le]
theorem mq_at (L : List Int) (t : Nat) (h : t < L.length) : (mq L t).getD t 0 = L.getD t 0 := by
  simp only [mq, List.getD_eq_getElem?_getD]
  rw [List.getElem?_append_right (by simp; omega)]
  simp [List.length_take, Nat.min_eq_left (Nat.le_of_lt h)]
theorem fth_at (L : List Int) (t : Nat) (h : t < L.length) : (L.map fth).getD t 0 = fth (L.getD t 0) := by
  simp [List.getD_eq_getElem?_getD, h]
theorem snoc_take (l : List Int) (t : Nat) (h : t < l.length) : l.take (t + 1) = l.take t ++ [l.getD t 0] := by
  rw [List.take_add_one, List.getElem?_eq_getElem h, List.getD_eq_getElem?_getD, List.getElem?_eq_getElem h]; rfl
theorem mq_set (L : List Int) (t : Nat) (h : t < L.length) : (mq L t).set t (fth (L.getD t 0)) = mq L (t + 1) := by
  unfold mq
  have e : L.drop t = L.getD t 0 :: L.drop (t + 1) := by
    rw [List.drop_eq_getElem_cons h, List.getD_eq_getElem?_getD, List.getElem?_eq_getElem h]; rfl
  rw [e, List.set_append_right _ _ (by simp; omega)]
  have e2 : t - ((L.map fth).take t).length = 0 := by simp; omega
  rw [e2, List.set_cons_zero, snoc_take (L.map fth) t (by simpa using h), List.append_assoc, fth_at L t h]
  rfl
theorem mq_new (L : List Int) (t : Nat) (h : t < L.length) : (mq L (t + 1)).getD t 0 = fth (L.getD t 0) := by
  rw [← mq_set L t h, getD_set _ _ _ _ (by rw [mq_len]; exact h), if_pos rfl]
theorem af_take (s b : Int) (L : List Int) (t : Nat) (h : t < L.length) : (af s b L).take (t + 1) = (af s b L).take t ++ [L.getD t 0 * s + b] := by
  rw [snoc_take _ t (by rw [af_len]; exact h), af_at _ _ _ _ h]
theorem af_sam {s b : Int} {L : List Int} (h : ∀ x ∈ L, -200 ≤ x ∧ x ≤ 200) (s1 : 1 ≤ s) (s4 : s ≤ 4) (b1 : -200 ≤ b) (b2 : b ≤ 200) : Sam (af s b L) := by
  intro x hx
  unfold af at hx
  rw [List.mem_map] at hx
  obtain ⟨y, hy, rfl⟩ := hx
  have := h y hy
  rcases (by omega : s = 1 ∨ s = 2 ∨ s = 3 ∨ s = 4) with rfl | rfl | rfl | rfl <;> omega
theorem fth_mem {L : List Int} (h : Sam L) : ∀ x ∈ L.map fth, -200 ≤ x ∧ x ≤ 200 := by
  intro x hx
  rw [List.mem_map] at hx
  obtain ⟨y, hy, rfl⟩ := hx
  exact fth_in (h y hy).1 (h y hy).2
theorem tmod_four (a : Int) (h0 : 0 ≤ a) : 0 ≤ a.tmod 4 ∧ a.tmod 4 ≤ 3 := by
  rw [Int.tmod_eq_emod_of_nonneg h0]; omega
end Go.Proofs.Ytgdhgeongdenpaa.Wd
