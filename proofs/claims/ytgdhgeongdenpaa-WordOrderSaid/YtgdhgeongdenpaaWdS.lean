/- Plain facts of words that belong. -/
import Derived.Test.YtgdhgeongdenpaaWdR
import Derived.Test.YtgdhgeongdenpaaWd13
namespace Go.Proofs.Ytgdhgeongdenpaa.Wd
open Go.ChangeShapes Go.WideShapes Go.RowKit Wo Sr Wi Ms
set_option linter.unusedVariables false
set_option linter.unusedSimpArgs false
theorem full_in {n : Nat} {F : List Int} (h : Wv n F (List.replicate n 4)) : ∀ p, p < n → 0 ≤ F.getD p 0 ∧ F.getD p 0 < 16 := fun p hp => by
  have a := h.2.2 p hp
  have e : (List.replicate n (4 : Int)).getD p 0 = 4 := by rw [List.getD_eq_getElem?_getD, List.getElem?_replicate, if_pos hp]; rfl
  rw [e] at a
  have a3 := a.2.2.2
  have : (2 : Int) ^ (4 : Int).toNat = 16 := by decide
  exact ⟨a.2.2.1, by omega⟩
theorem four_at (n : Nat) : ∀ p, p < n → (List.replicate n (4 : Int)).getD p 0 = 4 := fun p hp => by
  rw [List.getD_eq_getElem?_getD, List.getElem?_replicate, if_pos hp]; rfl
theorem zero_at (n : Nat) : ∀ p, p < n → (List.replicate n (0 : Int)).getD p 0 = 0 := fun p hp => by
  rw [List.getD_eq_getElem?_getD, List.getElem?_replicate, if_pos hp]; rfl
theorem root_wv (n : Nat) : Wv n (List.replicate n 0) (List.replicate n 0) := ⟨by simp, by simp, fun p hp => by
  rw [zero_at n p hp]; decide⟩
theorem blg_root {n : Nat} {F : List Int} (hF : ∀ p, p < n → 0 ≤ F.getD p 0 ∧ F.getD p 0 < 16) : Blg n (List.replicate n 0) (List.replicate n 0) F := fun p hp => by
  rw [zero_at n p hp]
  have := hF p hp
  show F.getD p 0 / 16 = 0
  omega
theorem blg_full {n : Nat} (F : List Int) : Blg n F (List.replicate n 4) F := fun p hp => by
  rw [four_at n p hp]
  show F.getD p 0 / 1 = _
  omega
theorem bool_split {p q r : Prop} [Decidable p] [Decidable q] [Decidable r] (h1 : p ↔ (q ∨ r)) (h2 : ¬ (q ∧ r)) : decide p = (decide q || decide r) ∧ (decide q && decide r) = false := by
  by_cases hq : q
  · by_cases hr : r
    · exact absurd ⟨hq, hr⟩ h2
    · have hp : p := h1.2 (.inl hq)
      simp [hp, hq, hr]
  · by_cases hr : r
    · have hp : p := h1.2 (.inr hr)
      simp [hp, hq, hr]
    · have hp : ¬ p := fun h => by rcases h1.1 h with h | h <;> contradiction
      simp [hp, hq, hr]
theorem div_split (f s : Int) (b : Nat) (hb : b < 4) : (f / 2 ^ (4 - b) = s ↔ (f / 2 ^ (4 - (b + 1)) = 2 * s + 0 ∨ f / 2 ^ (4 - (b + 1)) = 2 * s + 1)) := by
  rcases (by omega : b = 0 ∨ b = 1 ∨ b = 2 ∨ b = 3) with rfl | rfl | rfl | rfl <;> simp <;> omega
theorem blg_split {n p : Nat} {S B F : List Int} (hv : Wv n S B) (hp : p < n) (h4 : B.getD p 0 ≠ 4) :
    (Blg n S B F ↔ (Blg n (S.set p (2 * S.getD p 0 + 0)) (B.set p (B.getD p 0 + 1)) F ∨ Blg n (S.set p (2 * S.getD p 0 + 1)) (B.set p (B.getD p 0 + 1)) F)) ∧ ¬ (Blg n (S.set p (2 * S.getD p 0 + 0)) (B.set p (B.getD p 0 + 1)) F ∧ Blg n (S.set p (2 * S.getD p 0 + 1)) (B.set p (B.getD p 0 + 1)) F) := by
  have lS := hv.1
  have lB := hv.2.1
  obtain ⟨a0, a1, _, _⟩ := hv.2.2 p hp
  have eb : (B.getD p 0 + 1).toNat = (B.getD p 0).toNat + 1 := by omega
  have key := div_split (F.getD p 0) (S.getD p 0) (B.getD p 0).toNat (by omega)
  have at_ : ∀ d : Int, Blg n (S.set p (2 * S.getD p 0 + d)) (B.set p (B.getD p 0 + 1)) F ↔ ((∀ i, i < n → i ≠ p → F.getD i 0 / 2 ^ (4 - (B.getD i 0).toNat) = S.getD i 0) ∧ F.getD p 0 / 2 ^ (4 - ((B.getD p 0).toNat + 1)) = 2 * S.getD p 0 + d) := fun d => by
    constructor
    · intro h
      refine ⟨fun i hi hne => ?_, ?_⟩
      · have := h i hi
        rw [getD_set _ _ _ _ (by omega), getD_set _ _ _ _ (by omega), if_neg (fun e => hne e.symm), if_neg (fun e => hne e.symm)] at this
        exact this
      · have := h p hp
        rw [getD_set _ _ _ _ (by omega), getD_set _ _ _ _ (by omega), if_pos rfl, if_pos rfl, eb] at this
        exact this
    · rintro ⟨h1, h2⟩ i hi
      rw [getD_set _ _ _ _ (by omega), getD_set _ _ _ _ (by omega)]
      by_cases e : p = i
      · subst e; rw [if_pos rfl, if_pos rfl, eb]; exact h2
      · rw [if_neg e, if_neg e]; exact h1 i hi (fun h => e h.symm)
  have at0 : Blg n S B F ↔ ((∀ i, i < n → i ≠ p → F.getD i 0 / 2 ^ (4 - (B.getD i 0).toNat) = S.getD i 0) ∧ F.getD p 0 / 2 ^ (4 - (B.getD p 0).toNat) = S.getD p 0) := by
    constructor
    · intro h; exact ⟨fun i hi _ => h i hi, h p hp⟩
    · rintro ⟨h1, h2⟩ i hi
      by_cases e : i = p
      · subst e; exact h2
      · exact h1 i hi e
  rw [at0, at_ 0, at_ 1]
  constructor
  · constructor
    · rintro ⟨h1, h2⟩
      rcases key.1 h2 with h | h
      · exact .inl ⟨h1, h⟩
      · exact .inr ⟨h1, h⟩
    · rintro (⟨h1, h⟩ | ⟨h1, h⟩)
      · exact ⟨h1, key.2 (.inl h)⟩
      · exact ⟨h1, key.2 (.inr h)⟩
  · rintro ⟨⟨_, h⟩, ⟨_, h'⟩⟩; omega
end Go.Proofs.Ytgdhgeongdenpaa.Wd
