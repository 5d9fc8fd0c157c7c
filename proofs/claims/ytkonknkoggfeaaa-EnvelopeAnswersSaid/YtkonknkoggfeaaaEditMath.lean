/- Plain facts about alignments and their least costs (layer 15): no program here. -/
import Derived.Test.YtkonknkoggfeaaaWarpMath
namespace Go.Proofs.Ytkonknkoggfeaaa.Wi
set_option linter.unusedVariables false
def ab (x : Int) : Int := if x < 0 then -x else x
theorem ab_nn (x : Int) : 0 ≤ ab x := by unfold ab; split <;> omega
theorem ab_tri (a b c : Int) : ab (a - c) ≤ ab (a - b) + ab (b - c) := by unfold ab; split <;> split <;> split <;> omega
theorem ab_sym (a b : Int) : ab (a - b) = ab (b - a) := by unfold ab; split <;> split <;> omega
theorem ab_self (a : Int) : ab (a - a) = 0 := by unfold ab; split <;> omega
theorem ab_in {x B : Int} (h1 : -B ≤ x) (h2 : x ≤ B) : 0 ≤ ab x ∧ ab x ≤ B := by unfold ab; split <;> omega
/-- the least costs of aligning beginnings -/
def et (X Y : List Int) (g : Int) : Nat → Nat → Int
  | 0, 0 => 0
  | 0, j + 1 => et X Y g 0 j + ab (Y.getD j 0 - g)
  | i + 1, 0 => et X Y g i 0 + ab (X.getD i 0 - g)
  | i + 1, j + 1 => mn3 (et X Y g i j + ab (X.getD i 0 - Y.getD j 0)) (et X Y g i (j + 1) + ab (X.getD i 0 - g)) (et X Y g (i + 1) j + ab (Y.getD j 0 - g))
termination_by i j => (i, j)
theorem et_00 (X Y : List Int) (g : Int) : et X Y g 0 0 = 0 := by rw [et]
theorem et_0s (X Y : List Int) (g : Int) (j : Nat) : et X Y g 0 (j + 1) = et X Y g 0 j + ab (Y.getD j 0 - g) := by rw [et]
theorem et_s0 (X Y : List Int) (g : Int) (i : Nat) : et X Y g (i + 1) 0 = et X Y g i 0 + ab (X.getD i 0 - g) := by rw [et]
theorem et_ss (X Y : List Int) (g : Int) (i j : Nat) : et X Y g (i + 1) (j + 1) = mn3 (et X Y g i j + ab (X.getD i 0 - Y.getD j 0)) (et X Y g i (j + 1) + ab (X.getD i 0 - g)) (et X Y g (i + 1) j + ab (Y.getD j 0 - g)) := by rw [et]
theorem et_up (X Y : List Int) (g : Int) (i j : Nat) : et X Y g (i + 1) j ≤ et X Y g i j + ab (X.getD i 0 - g) := by
  rcases j with _ | j
  · rw [et_s0]; omega
  · rw [et_ss]; exact (mn3_le _ _ _).2.1
theorem et_left (X Y : List Int) (g : Int) (i j : Nat) : et X Y g i (j + 1) ≤ et X Y g i j + ab (Y.getD j 0 - g) := by
  rcases i with _ | i
  · rw [et_0s]; omega
  · rw [et_ss]; exact (mn3_le _ _ _).2.2
theorem et_diag (X Y : List Int) (g : Int) (i j : Nat) : et X Y g (i + 1) (j + 1) ≤ et X Y g i j + ab (X.getD i 0 - Y.getD j 0) := by
  rw [et_ss]; exact (mn3_le _ _ _).1
/-- the way in which the least cost is attained -/
theorem et_or (X Y : List Int) (g : Int) (i j : Nat) (h : 0 < i + j) :
    (∃ p q, i = p + 1 ∧ j = q + 1 ∧ et X Y g i j = et X Y g p q + ab (X.getD p 0 - Y.getD q 0)) ∨ (∃ p, i = p + 1 ∧ et X Y g i j = et X Y g p j + ab (X.getD p 0 - g)) ∨ (∃ q, j = q + 1 ∧ et X Y g i j = et X Y g i q + ab (Y.getD q 0 - g)) := by
  rcases i with _ | i
  · rcases j with _ | j
    · omega
    · exact .inr (.inr ⟨j, rfl, et_0s _ _ _ _⟩)
  · rcases j with _ | j
    · exact .inr (.inl ⟨i, rfl, et_s0 _ _ _ _⟩)
    · rw [et_ss]
      rcases mn3_or (et X Y g i j + ab (X.getD i 0 - Y.getD j 0)) (et X Y g i (j + 1) + ab (X.getD i 0 - g)) (et X Y g (i + 1) j + ab (Y.getD j 0 - g)) with h | h | h
      · exact .inl ⟨i, j, rfl, rfl, h⟩
      · exact .inr (.inl ⟨i, rfl, h⟩)
      · exact .inr (.inr ⟨j, rfl, h⟩)
theorem et_nn (X Y : List Int) (g : Int) : ∀ (n i j : Nat), i + j = n → 0 ≤ et X Y g i j := by
  intro n
  induction n using Nat.strongRecOn with
  | _ n ih =>
    intro i j h
    rcases Nat.eq_zero_or_pos (i + j) with h0 | h0
    · obtain rfl : i = 0 := by omega
      obtain rfl : j = 0 := by omega
      rw [et_00]; omega
    · rcases et_or X Y g i j h0 with ⟨p, q, rfl, rfl, e⟩ | ⟨p, rfl, e⟩ | ⟨q, rfl, e⟩
      · have := ih (p + q) (by omega) p q rfl; have := ab_nn (X.getD p 0 - Y.getD q 0); omega
      · have := ih (p + j) (by omega) p j rfl; have := ab_nn (X.getD p 0 - g); omega
      · have := ih (i + q) (by omega) i q rfl; have := ab_nn (Y.getD q 0 - g); omega
theorem et_hi {X Y : List Int} {g : Int} (hs : Sam X) (ht : Sam Y) (g0 : -1000 ≤ g) (g1 : g ≤ 1000) : ∀ (n i j : Nat), i + j = n → et X Y g i j ≤ 2000 * (n : Int) := by
  intro n
  induction n using Nat.strongRecOn with
  | _ n ih =>
    intro i j h
    rcases i with _ | i
    · rcases j with _ | j
      · rw [et_00]; omega
      · have := ih j (by omega) 0 j (by omega)
        have a := ht.at j
        have := ab_in (B := 2000) (x := Y.getD j 0 - g) (by omega) (by omega)
        rw [et_0s]; omega
    · have := ih (i + j) (by omega) i j rfl
      have a := hs.at i
      have := ab_in (B := 2000) (x := X.getD i 0 - g) (by omega) (by omega)
      have := et_up X Y g i j
      omega
theorem et_sym (X Y : List Int) (g : Int) : ∀ (n i j : Nat), i + j = n → et X Y g i j = et Y X g j i := by
  intro n
  induction n using Nat.strongRecOn with
  | _ n ih =>
    intro i j h
    rcases i with _ | i
    · rcases j with _ | j
      · rw [et_00, et_00]
      · rw [et_0s, et_s0, ih j (by omega) 0 j (by omega)]
    · rcases j with _ | j
      · rw [et_s0, et_0s, ih i (by omega) i 0 (by omega)]
      · rw [et_ss, et_ss, ih (i + j) (by omega) i j rfl, ih (i + (j + 1)) (by omega) i (j + 1) rfl, ih (i + 1 + j) (by omega) (i + 1) j rfl, mn3_swap, ab_sym]
theorem et_tri (X Y Z : List Int) (g : Int) : ∀ (n i j k : Nat), i + j + k = n → et X Z g i k ≤ et X Y g i j + et Y Z g j k := by
  intro n
  induction n using Nat.strongRecOn with
  | _ n ih =>
    intro i j k h
    rcases Nat.eq_zero_or_pos (i + j) with h1 | h1
    · obtain rfl : i = 0 := by omega
      obtain rfl : j = 0 := by omega
      rw [et_00]
      have : ∀ k, et X Z g 0 k = et Y Z g 0 k := by
        intro k
        induction k with
        | zero => rw [et_00, et_00]
        | succ k ih => rw [et_0s, et_0s, ih]
      rw [this]; omega
    · rcases Nat.eq_zero_or_pos (j + k) with h2 | h2
      · obtain rfl : k = 0 := by omega
        obtain rfl : j = 0 := by omega
        rw [et_00 Y]
        have : ∀ i, et X Z g i 0 = et X Y g i 0 := by
          intro k
          induction k with
          | zero => rw [et_00, et_00]
          | succ k ih => rw [et_s0, et_s0, ih]
        rw [this]; omega
      · rcases et_or X Y g i j h1 with ⟨p, q, rfl, rfl, e⟩ | ⟨p, rfl, e⟩ | ⟨q, rfl, e⟩
        · rcases et_or Y Z g (q + 1) k h2 with ⟨q', r, eq, rfl, f⟩ | ⟨q', eq, f⟩ | ⟨r, rfl, f⟩
          · obtain rfl : q = q' := by omega
            have a := ih (p + q + r) (by omega) p q r rfl
            have b := et_diag X Z g p r
            have c := ab_tri (X.getD p 0) (Y.getD q 0) (Z.getD r 0)
            omega
          · obtain rfl : q = q' := by omega
            have a := ih (p + q + k) (by omega) p q k rfl
            have b := et_up X Z g p k
            have c := ab_tri (X.getD p 0) (Y.getD q 0) g
            omega
          · have a := ih (p + 1 + (q + 1) + r) (by omega) (p + 1) (q + 1) r rfl
            have b := et_left X Z g (p + 1) r
            omega
        · have a := ih (p + j + k) (by omega) p j k rfl
          have b := et_up X Z g p k
          omega
        · rcases et_or Y Z g (q + 1) k h2 with ⟨q', r, eq, rfl, f⟩ | ⟨q', eq, f⟩ | ⟨r, rfl, f⟩
          · obtain rfl : q = q' := by omega
            have a := ih (i + q + r) (by omega) i q r rfl
            have b := et_left X Z g i r
            have c := ab_tri (Z.getD r 0) (Y.getD q 0) g
            rw [ab_sym (Z.getD r 0) (Y.getD q 0)] at c
            omega
          · obtain rfl : q = q' := by omega
            have a := ih (i + q + k) (by omega) i q k rfl
            have := ab_nn (Y.getD q 0 - g)
            omega
          · have a := ih (i + (q + 1) + r) (by omega) i (q + 1) r rfl
            have b := et_left X Z g i r
            omega
theorem et_self (X : List Int) (g : Int) : ∀ i, et X X g i i ≤ 0 := by
  intro i
  induction i with
  | zero => rw [et_00]; omega
  | succ i ih => have := et_diag X X g i i; rw [ab_self] at this; omega
theorem et_zero (X : List Int) (g : Int) (i : Nat) : et X X g i i = 0 := by
  have := et_self X g i
  have := et_nn X X g _ i i rfl
  omega
/-- the table depends on what stands ahead alone, and on differences -/
theorem et_cong {X Y P Q : List Int} {g f : Int} {n m : Nat} (h1 : ∀ i, i < n → X.getD i 0 - g = P.getD i 0 - f) (h2 : ∀ j, j < m → Y.getD j 0 - g = Q.getD j 0 - f) : ∀ (k i j : Nat), i + j = k → i ≤ n → j ≤ m → et X Y g i j = et P Q f i j := by
  intro k
  induction k using Nat.strongRecOn with
  | _ k ih =>
    intro i j h hi hj
    rcases i with _ | i
    · rcases j with _ | j
      · rw [et_00, et_00]
      · rw [et_0s, et_0s, ih j (by omega) 0 j (by omega) (by omega) (by omega), h2 j (by omega)]
    · rcases j with _ | j
      · rw [et_s0, et_s0, ih i (by omega) i 0 (by omega) (by omega) (by omega), h1 i (by omega)]
      · have e : X.getD i 0 - Y.getD j 0 = P.getD i 0 - Q.getD j 0 := by have := h1 i (by omega); have := h2 j (by omega); omega
        rw [et_ss, et_ss, ih (i + j) (by omega) i j rfl (by omega) (by omega), ih (i + (j + 1)) (by omega) i (j + 1) rfl (by omega) (by omega), ih (i + 1 + j) (by omega) (i + 1) j rfl (by omega) (by omega), h1 i (by omega), h2 j (by omega), e]
/-- an alignment of the beginnings, and its cost: 1 both, 2 left, 3 right -/
inductive Al (X Y : List Int) (g : Int) : List Int → Nat → Nat → Int → Prop
  | nil : Al X Y g [] 0 0 0
  | both {l i j k} (h : Al X Y g l i j k) : Al X Y g (l ++ [1]) (i + 1) (j + 1) (k + ab (X.getD i 0 - Y.getD j 0))
  | left {l i j k} (h : Al X Y g l i j k) : Al X Y g (l ++ [2]) (i + 1) j (k + ab (X.getD i 0 - g))
  | right {l i j k} (h : Al X Y g l i j k) : Al X Y g (l ++ [3]) i (j + 1) (k + ab (Y.getD j 0 - g))
theorem al_le {X Y : List Int} {g : Int} {l : List Int} {i j : Nat} {k : Int} (h : Al X Y g l i j k) : et X Y g i j ≤ k := by
  induction h with
  | nil => rw [et_00]; omega
  | both h ih => rename_i l i j k; have := et_diag X Y g i j; omega
  | left h ih => rename_i l i j k; have := et_up X Y g i j; omega
  | right h ih => rename_i l i j k; have := et_left X Y g i j; omega
theorem al_path (X Y : List Int) (g : Int) : ∀ (n i j : Nat), i + j = n → ∃ l, Al X Y g l i j (et X Y g i j) := by
  intro n
  induction n using Nat.strongRecOn with
  | _ n ih =>
    intro i j h
    rcases Nat.eq_zero_or_pos (i + j) with h0 | h0
    · obtain rfl : i = 0 := by omega
      obtain rfl : j = 0 := by omega
      exact ⟨[], by rw [et_00]; exact Al.nil⟩
    · rcases et_or X Y g i j h0 with ⟨p, q, rfl, rfl, e⟩ | ⟨p, rfl, e⟩ | ⟨q, rfl, e⟩
      · obtain ⟨l, hl⟩ := ih (p + q) (by omega) p q rfl
        exact ⟨_, by rw [e]; exact Al.both hl⟩
      · obtain ⟨l, hl⟩ := ih (p + j) (by omega) p j rfl
        exact ⟨_, by rw [e]; exact Al.left hl⟩
      · obtain ⟨l, hl⟩ := ih (i + q) (by omega) i q rfl
        exact ⟨_, by rw [e]; exact Al.right hl⟩
/-- reversed windows -/
def ft (X Y : List Int) (g : Int) (n m i j : Nat) : Int := et X.reverse Y.reverse g (n - i) (m - j)
theorem et_app_left {X Y : List Int} {g : Int} {n m i j : Nat} {l : List Int} {k : Int} (h : Al X Y g l i j k) : i ≤ n → j ≤ m → X.length = n → Y.length = m → ∀ p q, p = n - i → q = m - j → et X.reverse Y.reverse g n m ≤ et X.reverse Y.reverse g p q + k := by
  have rx : ∀ i, X.length = n → i < n → X.reverse.getD (n - 1 - i) 0 = X.getD i 0 := fun i hx hi => by rw [← hx]; exact rev_at (by omega)
  have ry : ∀ i, Y.length = m → i < m → Y.reverse.getD (m - 1 - i) 0 = Y.getD i 0 := fun i hx hi => by rw [← hx]; exact rev_at (by omega)
  induction h with
  | nil =>
    intro hi hj hx hy p q hp hq
    rw [hp, hq]
    simp
  | @both l i j k h ih =>
    intro hi hj hx hy p q hp hq
    have a := ih (by omega) (by omega) hx hy (p + 1) (q + 1) (by omega) (by omega)
    have b := et_diag X.reverse Y.reverse g p q
    rw [show p = n - 1 - i by omega, show q = m - 1 - j by omega, rx i hx (by omega), ry j hy (by omega)] at b
    rw [show p = n - 1 - i by omega, show q = m - 1 - j by omega] at a ⊢
    omega
  | @left l i j k h ih =>
    intro hi hj hx hy p q hp hq
    have a := ih (by omega) (by omega) hx hy (p + 1) q (by omega) (by omega)
    have b := et_up X.reverse Y.reverse g p q
    rw [show p = n - 1 - i by omega, rx i hx (by omega)] at b
    rw [show p = n - 1 - i by omega] at a ⊢
    omega
  | @right l i j k h ih =>
    intro hi hj hx hy p q hp hq
    have a := ih (by omega) (by omega) hx hy p (q + 1) (by omega) (by omega)
    have b := et_left X.reverse Y.reverse g p q
    rw [show q = m - 1 - j by omega, ry j hy (by omega)] at b
    rw [show q = m - 1 - j by omega] at a ⊢
    omega
theorem et_rev (X Y : List Int) (g : Int) : et X.reverse Y.reverse g X.length Y.length = et X Y g X.length Y.length := by
  have le : ∀ X Y : List Int, et X.reverse Y.reverse g X.length Y.length ≤ et X Y g X.length Y.length := by
    intro X Y
    obtain ⟨l, hl⟩ := al_path X Y g _ X.length Y.length rfl
    have := et_app_left hl (Nat.le_refl _) (Nat.le_refl _) rfl rfl 0 0 (by omega) (by omega)
    rw [et_00] at this
    omega
  have h1 := le X Y
  have h2 := le X.reverse Y.reverse
  rw [List.reverse_reverse, List.reverse_reverse, List.length_reverse, List.length_reverse] at h2
  omega
/-- a sample that equals the gap, put in somewhere -/
theorem et_put (X : List Int) (g : Int) (k : Nat) (hk : k ≤ X.length) : et X (X.take k ++ [g] ++ X.drop k) g X.length (X.length + 1) = 0 := by
  have nn := et_nn X (X.take k ++ [g] ++ X.drop k) g _ X.length (X.length + 1) rfl
  have g1 : ∀ i, i < k → (X.take k ++ [g] ++ X.drop k).getD i 0 = X.getD i 0 := fun i hi => by
    rw [List.getD_eq_getElem?_getD, List.getD_eq_getElem?_getD, List.append_assoc, List.getElem?_append_left (by simp; omega), List.getElem?_take_of_lt hi]
  have g2 : (X.take k ++ [g] ++ X.drop k).getD k 0 = g := by
    rw [List.getD_eq_getElem?_getD, List.append_assoc, List.getElem?_append_right (by simp; omega)]
    simp [Nat.min_eq_left hk]
  have g3 : ∀ i, k ≤ i → (X.take k ++ [g] ++ X.drop k).getD (i + 1) 0 = X.getD i 0 := fun i hi => by
    rw [List.getD_eq_getElem?_getD, List.getD_eq_getElem?_getD, List.getElem?_append_right (by simp; omega), List.getElem?_drop]
    congr 2
    simp
    omega
  have a : ∀ i, i ≤ k → et X (X.take k ++ [g] ++ X.drop k) g i i ≤ 0 := by
    intro i
    induction i with
    | zero => intro _; rw [et_00]; omega
    | succ i ih =>
      intro hi
      have := ih (by omega)
      have b := et_diag X (X.take k ++ [g] ++ X.drop k) g i i
      rw [g1 i (by omega), ab_self] at b
      omega
  have b := et_left X (X.take k ++ [g] ++ X.drop k) g k k
  rw [g2, ab_self] at b
  have c : ∀ i, et X (X.take k ++ [g] ++ X.drop k) g (k + i) (k + i + 1) ≤ 0 := by
    intro i
    induction i with
    | zero => have := a k (Nat.le_refl _); simpa using (by omega : et X (X.take k ++ [g] ++ X.drop k) g k (k + 1) ≤ 0)
    | succ i ih =>
      have d := et_diag X (X.take k ++ [g] ++ X.drop k) g (k + i) (k + i + 1)
      rw [g3 (k + i) (by omega), ab_self] at d
      have : et X (X.take k ++ [g] ++ X.drop k) g (k + i + 1) (k + i + 1 + 1) ≤ 0 := by omega
      exact this
  have d := c (X.length - k)
  rw [show k + (X.length - k) = X.length by omega] at d
  omega
/-- the difference of the sums of what is above the gap -/
def ov (X : List Int) (g : Int) (i : Nat) : Int := su ix (X.take i) - (i : Int) * g
theorem ov_next (X : List Int) (g : Int) (i : Nat) (h : i < X.length) : ov X g (i + 1) = ov X g i + (X.getD i 0 - g) := by
  unfold ov
  rw [su_next ix X i h]
  unfold ix
  rw [show ((i + 1 : Nat) : Int) = (i : Int) + 1 by omega]
  grind
theorem et_sum (X Y : List Int) (g : Int) : ∀ (n i j : Nat), i + j = n → i ≤ X.length → j ≤ Y.length → ab (ov X g i - ov Y g j) ≤ et X Y g i j := by
  intro n
  induction n using Nat.strongRecOn with
  | _ n ih =>
    intro i j h hi hj
    rcases Nat.eq_zero_or_pos (i + j) with h0 | h0
    · obtain rfl : i = 0 := by omega
      obtain rfl : j = 0 := by omega
      rw [et_00]; simp [ov, su, ab]
    · rcases et_or X Y g i j h0 with ⟨p, q, rfl, rfl, e⟩ | ⟨p, rfl, e⟩ | ⟨q, rfl, e⟩
      · have a := ih (p + q) (by omega) p q rfl (by omega) (by omega)
        have b := ov_next X g p (by omega)
        have c := ov_next Y g q (by omega)
        rw [e, b, c]
        unfold ab at *
        revert a
        split <;> split <;> split <;> omega
      · have a := ih (p + j) (by omega) p j rfl (by omega) (by omega)
        have b := ov_next X g p (by omega)
        rw [e, b]
        unfold ab at *
        revert a
        split <;> split <;> split <;> omega
      · have a := ih (i + q) (by omega) i q rfl (by omega) (by omega)
        have c := ov_next Y g q (by omega)
        rw [e, c]
        unfold ab at *
        revert a
        split <;> split <;> split <;> omega
def ax (x : Int) : Int := ab x
theorem et_dia (X Y : List Int) (g : Int) (hl : X.length = Y.length) : ∀ i, i ≤ X.length → et X Y g i i ≤ su ax ((df X Y).take i) := by
  intro i
  induction i with
  | zero => intro _; rw [et_00]; simp [su]
  | succ i ih =>
    intro hi
    have a := ih (by omega)
    have b := et_diag X Y g i i
    rw [su_next ax (df X Y) i (by rw [df_len hl]; omega), df_at hl i (by omega)]
    unfold ax at *
    omega
end Go.Proofs.Ytkonknkoggfeaaa.Wi
