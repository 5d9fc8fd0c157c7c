/- Readings in equal steps need two bytes each. -/
import Derived.Test.YtdkibffbaamkkaaQ5
import Derived.Test.YtdkibffbaamkkaaPkW
namespace Go.Proofs.Ytdkibffbaamkkaa.Pk
open Go.ChangeShapes Go.WideShapes Go.RowKit Wo Sr Wi Rm Rg Cd Cr By
set_option linter.unusedVariables false
def lst (f s d : Int) (i : Nat) : List Rp := (List.range i).map fun (j : Nat) => (f + (j : Int) * s, (j : Int) * d)
theorem lst_len (f s d : Int) (i : Nat) : (lst f s d i).length = i := by simp [lst]
theorem lst_next (f s d : Int) (i : Nat) : lst f s d (i + 1) = lst f s d i ++ [(f + (i : Int) * s, (i : Int) * d)] := by simp [lst, List.range_succ]
theorem one_byte {n : Int} (h0 : -64 ≤ n) (h1 : n ≤ 63) : (bytesOf n).length = 1 := by
  unfold bytesOf
  rw [enc_small _ (by unfold fld; split <;> omega)]
  rfl
theorem lst_pk (f s d : Int) (s0 : 0 ≤ s) (s1 : s ≤ 63) (d0 : -63 ≤ d) (d1 : d ≤ 63) (i : Nat) : (pk (lst f s d (i + 1)) 0 0).length = (pk (lst f s d 1) 0 0).length + 2 * i := by
  induction i with
  | zero => rfl
  | succ i ih =>
    rw [lst_next f s d (i + 1), pk_snoc]
    have e : ls (lst f s d (i + 1)) (0, 0) = (f + (i : Int) * s, (i : Int) * d) := by rw [lst_next, ls_snoc]
    rw [e]
    have e1 : f + ((i + 1 : Nat) : Int) * s - (f + (i : Int) * s) = s := by rw [Int.natCast_add, Int.add_mul]; omega
    have e2 : ((i + 1 : Nat) : Int) * d - (i : Int) * d = d := by rw [Int.natCast_add, Int.add_mul]; omega
    simp only []
    rw [e1, e2, List.length_append, List.length_append, one_byte (by omega) (by omega), one_byte (by omega) (by omega), ih]
    omega
theorem lst_pck (f s d : Int) (s0 : 0 ≤ s) (s1 : s ≤ 63) (d0 : -63 ≤ d) (d1 : d ≤ 63) (i : Nat) (hi : i ≤ 60) : (pck (lst f s d (i + 1))).length = (pck (lst f s d 1)).length + 2 * i := by
  have h := lst_pk f s d s0 s1 d0 d1 i
  unfold pck body
  simp only [List.length_append, lst_len]
  rw [h, one_byte (n := ((i + 1 : Nat) : Int)) (by omega) (by omega), one_byte (n := ((1 : Nat) : Int)) (by decide) (by decide)]
  simp [seal4]
  omega
theorem lst_one (f s d : Int) (i : Nat) : (lst f s d (i + 1)).take 1 = lst f s d 1 := by
  induction i with
  | zero => rfl
  | succ i ih => rw [lst_next, List.take_append_of_le_length (by rw [lst_len]; omega), ih]
theorem vrs_take {l : List Rp} (h : Vrs l) (k : Nat) : Vrs (l.take k) := fun i hi => by
  have h2 := h i (by rw [List.length_take] at hi; omega)
  rw [List.length_take] at hi
  unfold tm vl at h2 ⊢
  rw [List.getD_eq_getElem?_getD, List.getElem?_take, if_pos (by omega)]
  rwa [List.getD_eq_getElem?_getD] at h2
theorem zr_take {w : World} {A : Option Addr} {n : Nat} {l : List Rp} (h : Zr w A n l) (k : Nat) (hk : k ≤ n) : Zr w A k (l.take k) := by
  refine ⟨by rw [List.length_take, h.1]; omega, fun hp => ?_⟩
  obtain ⟨g, e, hg, hc⟩ := h.2 (by omega)
  refine ⟨g, e, hg, fun j hj => ?_⟩
  have := hc j (by omega)
  unfold tm vl at this ⊢
  rw [List.getD_eq_getElem?_getD, List.getElem?_take, if_pos hj]
  rwa [List.getD_eq_getElem?_getD] at this
theorem rencode_rd (A : Option Addr) (ca n : Nat) (l : List Rp) (hn : n ≤ 2000) (hv : Vrs l) (w : World) (h : Zr w A n l) (p : Nat) (hp : (pck l).length = p) :
    Calls Try.prog 19 #[.slice A n ca] w fun e w' => ∃ (h c : Nat), e = .returned (.tuple #[.slice (some ⟨h, 0, none⟩) p c, .int .i64 0]) ∧ Rd w' (some ⟨h, 0, none⟩) p (pck l) ∧ Bel w w' := by
  subst hp
  have hl := h.1
  refine (rencode_ok A ca n l hn hv w h).mono ?_
  rintro e w' ⟨u, rfl, ho, hb⟩
  have hp : 0 < (pck l).length := by unfold pck; simp [seal4]
  obtain ⟨h3, cap, rfl, _, _⟩ := ho.form hp
  exact ⟨h3, cap, rfl, Rd.own ho (pck_byte hv (by omega)) rfl, hb⟩
end Go.Proofs.Ytdkibffbaamkkaa.Pk
