/- Plain facts of coordinates: their bounds; a window belongs to a word exactly if its coordinates lie in the intervals. -/
import Derived.Test.YtgdhgeongdenpaaWdS
namespace Go.Proofs.Ytgdhgeongdenpaa.Wd
open Go.ChangeShapes Go.WideShapes Go.RowKit Wo Sr Wi Ms Pc Nr Rt
set_option linter.unusedVariables false
set_option linter.unusedSimpArgs false
theorem ediv_in {a d B : Int} (h1 : -B ≤ a) (h2 : a ≤ B) (hd : 1 ≤ d) : -B ≤ a / d ∧ a / d ≤ B := by
  have B0 : 0 ≤ B := by omega
  constructor
  · rw [Int.le_ediv_iff_mul_le (by omega)]
    have : -B * d = -(B * d) := by rw [Int.neg_mul]
    have h3 : B * 1 ≤ B * d := Int.mul_le_mul_of_nonneg_left hd B0
    omega
  · have h4 : a / d < B + 1 := by
      rw [Int.ediv_lt_iff_lt_mul (by omega)]
      have h3 : (B + 1) * 1 ≤ (B + 1) * d := Int.mul_le_mul_of_nonneg_left hd (by omega)
      omega
    omega
theorem quo_bd {t e : Int} (h : QIn t e) : -2147483649 ≤ quo t e ∧ quo t e ≤ 2147483648 := by
  obtain ⟨h1, h2, h3, h4⟩ := id h
  have a := Rt.sq_bd h1 h2
  have d := Rt.div_bd a.1 a.2 h3
  have i0 := isq_nonneg (t * t / e)
  have i1 := isq_le_max d.1 d.2
  unfold quo
  split
  · omega
  · split <;> omega
theorem cdl_bd {k : Int} {X : List Int} {m n p : Nat} (hX : Sam X) (hl : X.length = m) (m2 : 2 ≤ m) (m32 : m ≤ 32) (n1 : 1 ≤ n) (nm : n ≤ m) (hp : p < n) : -1099511627776 ≤ cdl k X m n p ∧ cdl k X m n p ≤ 1099511627776 := by
  have c1 := Pc.pls_bd (m := m) (n := n) (Pc.cen_bd hX (by omega)) m32 n1 p hp
  have c2 := Pc.pls_bd (m := m) (n := n) (L := X) (fun x h => by have := hX x h; omega) m32 n1 p hp
  obtain ⟨q1, _, _⟩ := pln_in m n p n1 nm m32 hp
  unfold cdl
  split
  · have : (1 : Int) * 1 ≤ (m : Int) * (pln m n p : Int) := Int.mul_le_mul (by omega) (by omega) (by decide) (by omega)
    have := ediv_in (B := 2048000) (by omega) c1.2 (d := (m : Int) * (pln m n p : Int)) (by omega)
    omega
  · split
    · split
      · rename_i h
        have := quo_bd h
        omega
      · decide
    · have := ediv_in (B := 2048000) (by omega) c2.2 (d := (pln m n p : Int)) (by omega)
      omega
/-- whether the first j numbers lie in their intervals -/
def Acc (R : List Rp) (L : List Int) (j : Nat) (bb : Bool) : Prop := bb = true ↔ ∀ p, p < j → ((R.getD p (0, 0)).1 ≤ L.getD p 0 ∧ L.getD p 0 ≤ (R.getD p (0, 0)).2)
theorem acc_zero (R : List Rp) (L : List Int) : Acc R L 0 true := ⟨fun _ p hp => by omega, fun _ => rfl⟩
theorem acc_next (R : List Rp) (L : List Int) (j : Nat) (b c : Bool) (h : Acc R L j b) (hc : c = true ↔ (b = true ∧ (R.getD j (0, 0)).1 ≤ L.getD j 0 ∧ L.getD j 0 ≤ (R.getD j (0, 0)).2)) : Acc R L (j + 1) c := by
  unfold Acc at *
  rw [hc, h]
  constructor
  · rintro ⟨h1, h2⟩ p hp
    rcases Nat.lt_or_ge p j with q | q
    · exact h1 p q
    · obtain rfl : p = j := by omega
      exact h2
  · intro h1
    exact ⟨fun p hp => h1 p (by omega), h1 j (by omega)⟩
theorem fst_lst (s : Int) (b : Nat) : fst s b ≤ lst s b := by
  unfold lst
  have : 1 ≤ 2 ^ (4 - b) := Nat.one_le_two_pow
  omega
theorem blg_rgn {n : Nat} {C S B : List Int} {k : Int} {X : List Int} {m : Nat} (hC : Cv C) (hv : Wv n S B) (hb : ∀ p, p < n → -1099511627776 ≤ cdl k X m n p ∧ cdl k X m n p ≤ 1099511627776) :
    Blg n S B (sys k C X m n) ↔ ∀ p, p < n → (((rgn n C S B).getD p (0, 0)).1 ≤ (cds k X m n).getD p 0 ∧ (cds k X m n).getD p 0 ≤ ((rgn n C S B).getD p (0, 0)).2) := by
  have key : ∀ p, p < n → ((sys k C X m n).getD p 0 / 2 ^ (4 - (B.getD p 0).toNat) = S.getD p 0 ↔ (((rgn n C S B).getD p (0, 0)).1 ≤ (cds k X m n).getD p 0 ∧ (cds k X m n).getD p 0 ≤ ((rgn n C S B).getD p (0, 0)).2)) := fun p hp => by
    obtain ⟨a0, a1, a2, a3⟩ := hv.2.2 p hp
    have b := hb p hp
    rw [rgn_at _ _ _ _ _ hp, cds_at _ _ _ _ _ hp, sys_at _ _ _ _ _ _ hp, ivl_in hC _ _ (fst_lst _ _) _ b.1 b.2, sh_in (by omega) a2 (by omega)]
    rfl
  exact ⟨fun h p hp => (key p hp).1 (h p hp), fun h p hp => (key p hp).2 (h p hp)⟩
end Go.Proofs.Ytgdhgeongdenpaa.Wd
