/- The contract of slices.Reverse over a row of numbers of the call's own. -/
import Derived.Test.YtkjffielnmdpcaaEdM
namespace Go.Proofs.Ytkjffielnmdpcaa.Ed
open Go.ChangeShapes Go.WideShapes Go.RowKit Wo Sr Wi
set_option linter.unusedVariables false
/-- the first a and the last a numbers have been exchanged -/
def rvd (S : List Int) (a : Nat) : List Int := (List.range S.length).map fun i => if i < a ∨ S.length - 1 - a < i then S.getD (S.length - 1 - i) 0 else S.getD i 0
theorem rvd_len (S : List Int) (a : Nat) : (rvd S a).length = S.length := by simp [rvd]
theorem rvd_at (S : List Int) (a i : Nat) (h : i < S.length) : (rvd S a).getD i 0 = if i < a ∨ S.length - 1 - a < i then S.getD (S.length - 1 - i) 0 else S.getD i 0 := by
  rw [List.getD_eq_getElem?_getD, rvd, List.getElem?_map, List.getElem?_range h]; rfl
theorem lists_eq {A B : List Int} (hl : A.length = B.length) (h : ∀ i, i < A.length → A.getD i 0 = B.getD i 0) : A = B := by
  apply List.ext_getElem?
  intro i
  rcases Nat.lt_or_ge i A.length with hi | hi
  · have := h i hi
    rw [List.getD_eq_getElem?_getD, List.getD_eq_getElem?_getD, List.getElem?_eq_getElem hi, List.getElem?_eq_getElem (by omega)] at this
    rw [List.getElem?_eq_getElem hi, List.getElem?_eq_getElem (by omega)]
    exact congrArg some this
  · rw [List.getElem?_eq_none hi, List.getElem?_eq_none (by omega)]
theorem rvd_zero (S : List Int) : rvd S 0 = S := by
  refine lists_eq (rvd_len _ _) fun i hi => ?_
  rw [rvd_len] at hi
  rw [rvd_at _ _ _ hi, if_neg (by omega)]
theorem rvd_all (S : List Int) (a : Nat) (h : S.length ≤ 2 * a + 1) : rvd S a = S.reverse := by
  refine lists_eq (by rw [rvd_len, List.length_reverse]) fun i hi => ?_
  rw [rvd_len] at hi
  have hr : S.reverse.getD (S.length - 1 - (S.length - 1 - i)) 0 = S.getD (S.length - 1 - i) 0 := rev_at (by omega)
  rw [show S.length - 1 - (S.length - 1 - i) = i by omega] at hr
  rw [rvd_at _ _ _ hi, hr]
  split
  · rfl
  · rename_i hc
    congr 1
    omega
theorem set_at (A : List Int) (k i : Nat) (y : Int) : (A.set k y).getD i 0 = if i = k ∧ i < A.length then y else A.getD i 0 := by
  rw [List.getD_eq_getElem?_getD, List.getD_eq_getElem?_getD, List.getElem?_set]
  rcases Classical.em (k = i) with rfl | h
  · rcases Nat.lt_or_ge k A.length with h2 | h2
    · simp [h2]
    · simp [Nat.not_lt.2 h2]
  · rw [if_neg h, if_neg (by omega)]
theorem rvd_step (S : List Int) (a b : Nat) (hab : a < b) (hb : b < S.length) (hs : b = S.length - 1 - a) : ((rvd S a).set a (S.getD b 0)).set b (S.getD a 0) = rvd S (a + 1) := by
  refine lists_eq (by rw [List.length_set, List.length_set, rvd_len, rvd_len]) fun i hi => ?_
  rw [List.length_set, List.length_set, rvd_len] at hi
  rw [set_at, set_at, List.length_set, rvd_len, rvd_at _ _ _ hi, rvd_at _ _ _ hi]
  rcases Classical.em (i = b) with rfl | h1
  · rw [if_pos ⟨rfl, hi⟩, if_pos (by omega)]
    congr 1
    omega
  · rw [if_neg (by omega)]
    rcases Classical.em (i = a) with rfl | h2
    · rw [if_pos ⟨rfl, hi⟩, if_pos (by omega)]
      congr 1
    · rw [if_neg (by omega)]
      rcases Classical.em (i < a ∨ S.length - 1 - a < i) with h3 | h3
      · rw [if_pos h3, if_pos (by omega)]
      · rw [if_neg h3, if_neg (by omega)]
set_option maxHeartbeats 8000000 in
set_option maxRecDepth 100000 in
theorem reverse_ok (base h c k : Nat) (S : List Int) (hk : S.length = k) (k1 : 1 ≤ k) (k2 : k ≤ 100000) (w w0 : World) (hown : w.ownsRow base 3 1 (.slice (some ⟨h, 0, none⟩) k c) k (zs S)) (hb : Bel w0 w) (hh : w0.heap.size ≤ h) :
    Calls Try.prog 52 #[.slice (some ⟨h, 0, none⟩) k c] w fun e w' => e = .returned (.tuple #[]) ∧ w'.ownsRow base 3 1 (.slice (some ⟨h, 0, none⟩) k c) k (zs S.reverse) ∧ Bel w0 w' := by
  have HO := Lib.hid hown
  have HB := Lib.hid hb
  have ki : (k : Int) ≤ 100000 := by omega
  have ki1 : 1 ≤ (k : Int) := by omega
  obtain ⟨l, hl⟩ : ∃ l, k - 1 = l := ⟨_, rfl⟩
  have hli : (k : Int) - 1 = (l : Int) := by omega
  have wl : wrap64 (l : Int) = (l : Int) := IntWalk.wrap64_in _ (by omega)
  have HL := Lib.hid hl
  clear hown hb
  go_enter Try.func52, Try.ntmps52
  go_wp2
  go_loopw [2, 3] (fun s2 s3 wr => ∃ (a : Nat) (b : Int) (V : World), V = wr ∧ s2 = .int .i64 (a : Int) ∧ s3 = .int .i64 b ∧ b = (k : Int) - 1 - (a : Int) ∧ 2 * a ≤ k + 1 ∧ wr.ownsRow base 3 1 (.slice (some ⟨h, 0, none⟩) k c) k (zs (rvd S a)) ∧ Bel w0 wr) (fun s2 _ _ => k - (intOf s2).toNat)
  case atStart => exact ⟨0, _, _, rfl, rfl, rfl, by omega, by omega, by rw [rvd_zero]; exact HO.out, HB.out⟩
  case round =>
    obtain ⟨a, b, wr, hwr, rfl, rfl, hab, ha2, ho, hb⟩ := hrel
    subst hwr
    have HO2 := Lib.hid ho
    have HB2 := Lib.hid hb
    rcases Int.lt_or_le (a : Int) b with hlt | hge
    · obtain ⟨b, rfl⟩ := Int.eq_ofNat_of_zero_le (show 0 ≤ b by omega)
      have z := own_zi ho (by rw [rvd_len]; exact hk)
      have c1 := z.at a (by omega)
      have c2 := z.at b (by omega)
      have f1 := own_fr ho a
      have f2 := own_fr ho b
      rw [rvd_at _ _ _ (by omega), if_neg (by omega)] at c1 c2
      obtain ⟨x, hx⟩ : ∃ x, S.getD a 0 = x := ⟨_, rfl⟩
      obtain ⟨y, hy⟩ : ∃ x, S.getD b 0 = x := ⟨_, rfl⟩
      rw [hx] at c1
      rw [hy] at c2
      have hne : a ≠ b := by omega
      have HXY := Lib.hid (And.intro hx hy)
      have HST : Hid (((wr.setCell ⟨h, a, none⟩ (.int .i64 y)).setCell ⟨h, b, none⟩ (.int .i64 x)).ownsRow base 3 1 (.slice (some ⟨h, 0, none⟩) k c) k (zs (rvd S (a + 1)))) := by
        have h1 := own_set (own_set ho (t := a) y) (t := b) x
        rw [← hx, ← hy, rvd_step S a b (by omega) (by omega) (by omega)] at h1
        rw [← hx, ← hy]
        exact h1
      have HSB : Hid (Bel w0 ((wr.setCell ⟨h, a, none⟩ (.int .i64 y)).setCell ⟨h, b, none⟩ (.int .i64 x))) := (hb.st (by show _ ≤ h; exact hh) _).st (by show _ ≤ h; exact hh) _
      have ak : (a : Int) < (k : Int) := by omega
      have bk : (b : Int) < (k : Int) := by omega
      have HABE := Lib.hid (And.intro hab hli)
      have hab3 : (a : Int) < (b : Int) := hlt
      clear ho hb z hx hy hab hli
      go_wp2
      go_region
      all_goals
        go_wp2
        go_roundw
        case rel => exact ⟨a + 1, _, _, rfl, by go_num, rfl, by have := HABE.out.1; omega, by have := HABE.out.1; omega, own_bel HST.out (by first | exact Bel.rf | exact Bel.rf.drw | exact Bel.rf.drwN _), by first | exact HSB.out | exact HSB.out.drw | exact HSB.out.drwN _⟩
        case measure => (have := HABE.out.1; simp [intOf]; omega)
    · rw [rvd_all S a (by omega)] at ho
      have HF := Lib.hid ho
      clear ho hb
      go_wp2
      go_end0
      exact ⟨rfl, HF.out, HB2.out⟩
end Go.Proofs.Ytkjffielnmdpcaa.Ed
