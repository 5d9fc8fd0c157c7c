/- plain facts of starts and windows, for the laws of stage 9. -/
import Derived.Test.YthpmgadmefhfpaaSer8
namespace Go.Proofs.Ythpmgadmefhfpaa.Se
open Go.RowKit Wo Sr Wi
set_option linter.unusedVariables false
theorem stz_in {L : List Int} {m x : Nat} (h : x ∈ sts L m) : ∃ j, j < (sts L m).length ∧ (stz L m).getD j 0 = (x : Int) := by
  obtain ⟨j, hj, e⟩ := List.getElem_of_mem h
  exact ⟨j, hj, by rw [stz_at hj, List.getD_eq_getElem?_getD, List.getElem?_eq_getElem hj, e]; rfl⟩
theorem stz_sub {L : List Int} {k : Nat} (hk : 1 ≤ k) {i : Nat} (hi : i < (sts L (k + 1)).length) : ∃ j, j < (sts L k).length ∧ (stz L k).getD j 0 = (stz L (k + 1)).getD i 0 := by
  have hm : (sts L (k + 1)).getD i 0 ∈ sts L (k + 1) := by
    rw [List.getD_eq_getElem?_getD, List.getElem?_eq_getElem hi]; exact List.getElem_mem hi
  have h2 := (sts_mem hk).2 (good_less ((sts_mem (by omega)).1 hm))
  obtain ⟨j, hj, e⟩ := stz_in h2
  exact ⟨j, hj, by rw [e, stz_at hi]⟩
theorem win_drop {L : List Int} {i j k : Nat} (hi : i ≤ L.length) : wz (L.drop i) j k = wz L (i + j) k ∧ we (L.drop i) j k = we L (i + j) k := by
  unfold wz we
  rw [good_drop hi, List.drop_drop, List.length_drop]
  refine ⟨rfl, ?_⟩
  split
  · rfl
  · split
    · rw [if_pos (by omega)]
    · rw [if_neg (by omega)]
def SomeW (E : Int) (Z : List Int) (w : World) (e : Ending) (w' : World) : Prop := ∃ (A : Option Addr) (c : Nat), e = .returned (.tuple #[.slice A Z.length c, .int .i64 E]) ∧ Zi w' A Z.length Z ∧ Bel w w'
theorem some_w {L : List Int} {i m : Nat} {w : World} {e : Ending} {w' : World} (h : SomeWin L i m w e w') : SomeW (we L i m) (wz L i m) w e w' := by
  obtain ⟨A, k, c, he, hk, hz, hb⟩ := h
  subst hk
  exact ⟨A, c, he, hz, hb⟩
theorem wz_len (L : List Int) (i m : Nat) : (wz L i m).length ≤ m := by
  unfold wz
  split
  · simp; omega
  · simp
end Go.Proofs.Ythpmgadmefhfpaa.Se
