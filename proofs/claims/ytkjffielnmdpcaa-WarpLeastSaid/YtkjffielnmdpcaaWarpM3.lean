/- What a warping path is, pair by pair. -/
import Derived.Test.YtkjffielnmdpcaaWarpM2
namespace Go.Proofs.Ytkjffielnmdpcaa.Wi
set_option linter.unusedVariables false
theorem gp_app {l : List (Nat × Nat)} {p : Nat × Nat} {t : Nat} : (l ++ [p]).getD t (0, 0) = if t < l.length then l.getD t (0, 0) else if t = l.length then p else (0, 0) := by
  rw [List.getD_eq_getElem?_getD, List.getD_eq_getElem?_getD]
  rcases Nat.lt_or_ge t l.length with h | h
  · rw [List.getElem?_append_left h, if_pos h]
  · rw [List.getElem?_append_right h, if_neg (by omega)]
    rcases Nat.eq_or_lt_of_le h with e | e
    · subst e; simp
    · rw [if_neg (by omega), List.getElem?_eq_none (by simp; omega)]; rfl
/-- the cost of pairs -/
def cs (X Y : List Int) : List (Nat × Nat) → Int
  | [] => 0
  | p :: l => cst X Y p.1 p.2 + cs X Y l
theorem cs_app (X Y : List Int) (a b : List (Nat × Nat)) : cs X Y (a ++ b) = cs X Y a + cs X Y b := by
  induction a with
  | nil => simp [cs]
  | cons p a ih => simp only [List.cons_append, cs, ih]; omega
theorem cs_take {X Y : List Int} {l : List (Nat × Nat)} {t : Nat} (h : t < l.length) : cs X Y (l.take (t + 1)) = cs X Y (l.take t) + cst X Y (l.getD t (0, 0)).1 (l.getD t (0, 0)).2 := by
  have e : l.take (t + 1) = l.take t ++ [l.getD t (0, 0)] := by
    rw [List.take_add_one, List.getD_eq_getElem?_getD, List.getElem?_eq_getElem h]; rfl
  rw [e, cs_app]
  simp [cs]
theorem cs_bd {X Y : List Int} (hs : Sam X) (ht : Sam Y) (l : List (Nat × Nat)) : 0 ≤ cs X Y l ∧ cs X Y l ≤ 4000000 * (l.length : Int) := by
  induction l with
  | nil => simp [cs]
  | cons p l ih =>
    have := cst_in hs ht p.1 p.2
    simp only [cs, List.length_cons]
    omega
theorem pq_info {X Y : List Int} {b : Int} {a c i j : Nat} {l : List (Nat × Nat)} {k : Int} (h : Pq X Y b a c l i j k) :
    1 ≤ l.length ∧ l.length ≤ (i - a) + (j - c) + 1 ∧ l.getD 0 (0, 0) = (a, c) ∧ l.getD (l.length - 1) (0, 0) = (i, j) ∧ k = cs X Y l ∧
    (∀ t, t < l.length → Bnd b (l.getD t (0, 0)).1 (l.getD t (0, 0)).2 ∧ (l.getD t (0, 0)).1 ≤ i ∧ (l.getD t (0, 0)).2 ≤ j) ∧
    (∀ t, t + 1 < l.length → Fol (l.getD t (0, 0)).1 (l.getD t (0, 0)).2 (l.getD (t + 1) (0, 0)).1 (l.getD (t + 1) (0, 0)).2) := by
  induction h with
  | one h => exact ⟨Nat.le_refl _, by simp, rfl, rfl, by simp [cs], fun t ht => by
      obtain rfl : t = 0 := by simpa using ht
      exact ⟨h, Nat.le_refl _, Nat.le_refl _⟩, fun t ht => by simp at ht⟩
  | @snoc i j p q l k hp hf h ih =>
    obtain ⟨h1, h2, h3, h4, h5, h6, h7⟩ := ih
    have hu := hp.up
    have hij : i ≤ p ∧ j ≤ q ∧ i + j < p + q := by rcases hf with ⟨e1, e2⟩ | ⟨e1, e2⟩ | ⟨e1, e2⟩ <;> omega
    have hl : (l ++ [(p, q)]).length = l.length + 1 := by simp
    refine ⟨by omega, by omega, ?_, ?_, ?_, fun t ht => ?_, fun t ht => ?_⟩
    · rw [gp_app, if_pos (by omega), h3]
    · rw [gp_app, hl, if_neg (by omega), if_pos (by omega)]
    · rw [cs_app, h5]; simp [cs]
    · rw [hl] at ht
      rw [gp_app]
      rcases Nat.lt_or_ge t l.length with e | e
      · rw [if_pos e]
        obtain ⟨x1, x2, x3⟩ := h6 t e
        exact ⟨x1, by omega, by omega⟩
      · rw [if_neg (by omega), if_pos (by omega)]
        exact ⟨h, Nat.le_refl _, Nat.le_refl _⟩
    · rw [hl] at ht
      rw [gp_app, gp_app, if_pos (show t < l.length by omega)]
      rcases Nat.lt_or_ge (t + 1) l.length with e | e
      · rw [if_pos e]; exact h7 t e
      · rw [if_neg (by omega), if_pos (by omega), show t = l.length - 1 by omega, h4]
        exact hf
end Go.Proofs.Ytkjffielnmdpcaa.Wi
