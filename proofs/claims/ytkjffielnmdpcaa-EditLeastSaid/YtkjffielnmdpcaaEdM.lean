/- Plain facts about alignments: their steps one after another; and the contract of slices.Reverse for any row of numbers. -/
import Derived.Test.YtkjffielnmdpcaaEdB
namespace Go.Proofs.Ytkjffielnmdpcaa.Ed
open Go.ChangeShapes Go.WideShapes Go.RowKit Wo Sr Wi
set_option linter.unusedVariables false
/-- how many samples of the first, and of the second window the steps use up -/
def cx (l : List Int) : Nat := (l.filter (fun s => s != 3)).length
def cy (l : List Int) : Nat := (l.filter (fun s => s != 2)).length
theorem al_cnt {X Y : List Int} {g : Int} {l : List Int} {i j : Nat} {k : Int} (h : Al X Y g l i j k) : cx l = i ∧ cy l = j ∧ (∀ s ∈ l, s = 1 ∨ s = 2 ∨ s = 3) ∧ l.length ≤ i + j := by
  induction h with
  | nil => simp [cx, cy]
  | both h ih =>
    obtain ⟨a, b, c, d⟩ := ih
    refine ⟨by simp [cx] at *; omega, by simp [cy] at *; omega, fun s hs => ?_, by simp; omega⟩
    rcases List.mem_append.1 hs with h | h
    · exact c s h
    · simp at h; exact .inl h
  | left h ih =>
    obtain ⟨a, b, c, d⟩ := ih
    refine ⟨by simp [cx] at *; omega, by simp [cy] at *; omega, fun s hs => ?_, by simp; omega⟩
    rcases List.mem_append.1 hs with h | h
    · exact c s h
    · simp at h; exact .inr (.inl h)
  | right h ih =>
    obtain ⟨a, b, c, d⟩ := ih
    refine ⟨by simp [cx] at *; omega, by simp [cy] at *; omega, fun s hs => ?_, by simp; omega⟩
    rcases List.mem_append.1 hs with h | h
    · exact c s h
    · simp at h; exact .inr (.inr h)
theorem al_bd {X Y : List Int} {g : Int} (hs : Sam X) (ht : Sam Y) (g0 : -1000 ≤ g) (g1 : g ≤ 1000) {l : List Int} {i j : Nat} {k : Int} (h : Al X Y g l i j k) : 0 ≤ k ∧ k ≤ 2000 * (l.length : Int) := by
  induction h with
  | nil => simp
  | @both l i j k h ih =>
    have a := hs.at i
    have b := ht.at j
    have c := ab_in (x := X.getD i 0 - Y.getD j 0) (B := 2000) (by omega) (by omega)
    rw [List.length_append]; simp only [List.length_cons, List.length_nil]; omega
  | @left l i j k h ih =>
    have a := hs.at i
    have c := ab_in (x := X.getD i 0 - g) (B := 2000) (by omega) (by omega)
    rw [List.length_append]; simp only [List.length_cons, List.length_nil]; omega
  | @right l i j k h ih =>
    have a := ht.at j
    have c := ab_in (x := Y.getD j 0 - g) (B := 2000) (by omega) (by omega)
    rw [List.length_append]; simp only [List.length_cons, List.length_nil]; omega
theorem al_fun {X Y : List Int} {g : Int} {l : List Int} {i j p q : Nat} {k c : Int} (h : Al X Y g l i j k) (h2 : Al X Y g l p q c) : k = c := by
  have a := al_cnt h
  have b := al_cnt h2
  obtain rfl : i = p := by omega
  obtain rfl : j = q := by omega
  clear a b
  induction h generalizing c with
  | nil =>
    generalize hl : ([] : List Int) = l at h2
    cases h2 with
    | nil => rfl
  | @both l i j k h ih =>
    generalize hl : l ++ [1] = m at h2
    generalize hi : i + 1 = p at h2
    generalize hj : j + 1 = q at h2
    cases h2 with
    | nil => simp at hl
    | both h3 =>
      have e := List.append_inj_left' hl rfl
      subst e
      obtain rfl : i = _ := Nat.succ.inj hi
      obtain rfl : j = _ := Nat.succ.inj hj
      rw [ih h3]
    | left h3 => have := List.append_inj_right' hl rfl; simp at this
    | right h3 => have := List.append_inj_right' hl rfl; simp at this
  | @left l i j k h ih =>
    generalize hl : l ++ [2] = m at h2
    generalize hi : i + 1 = p at h2
    cases h2 with
    | nil => simp at hl
    | left h3 =>
      have e := List.append_inj_left' hl rfl
      subst e
      obtain rfl : i = _ := Nat.succ.inj hi
      rw [ih h3]
    | both h3 => have := List.append_inj_right' hl rfl; simp at this
    | right h3 => have := List.append_inj_right' hl rfl; simp at this
  | @right l i j k h ih =>
    generalize hl : l ++ [3] = m at h2
    generalize hj : j + 1 = q at h2
    cases h2 with
    | nil => simp at hl
    | right h3 =>
      have e := List.append_inj_left' hl rfl
      subst e
      obtain rfl : j = _ := Nat.succ.inj hj
      rw [ih h3]
    | both h3 => have := List.append_inj_right' hl rfl; simp at this
    | left h3 => have := List.append_inj_right' hl rfl; simp at this
theorem cx_app (a b : List Int) : cx (a ++ b) = cx a + cx b ∧ cy (a ++ b) = cy a + cy b := by simp [cx, cy]
theorem cx_le (S : List Int) (t : Nat) : cx (S.take t) ≤ cx S ∧ cy (S.take t) ≤ cy S := by
  have a := cx_app (S.take t) (S.drop t)
  rw [List.take_append_drop] at a
  omega
/-- the next step -/
theorem al_next {X Y : List Int} {g : Int} {S : List Int} {n m i j t : Nat} {K c : Int} (hS : Al X Y g S n m K) (h : Al X Y g (S.take t) i j c) (ht : t < S.length) :
    (S.getD t 0 = 1 ∧ i < n ∧ j < m ∧ Al X Y g (S.take (t + 1)) (i + 1) (j + 1) (c + ab (X.getD i 0 - Y.getD j 0))) ∨ (S.getD t 0 = 2 ∧ i < n ∧ Al X Y g (S.take (t + 1)) (i + 1) j (c + ab (X.getD i 0 - g))) ∨ (S.getD t 0 = 3 ∧ j < m ∧ Al X Y g (S.take (t + 1)) i (j + 1) (c + ab (Y.getD j 0 - g))) := by
  have e := take_snoc S t ht
  have a := al_cnt hS
  have b := al_cnt h
  have l := cx_le S (t + 1)
  have hm : S.getD t 0 ∈ S := by rw [List.getD_eq_getElem?_getD, List.getElem?_eq_getElem ht]; exact List.getElem_mem ht
  rcases a.2.2.1 _ hm with g1 | g1 | g1
  · rw [g1] at e
    rw [e] at l
    refine .inl ⟨g1, ?_, ?_, by rw [e]; exact Al.both h⟩
    · have : cx (S.take t ++ [1]) = cx (S.take t) + 1 := by simp [cx]
      omega
    · have : cy (S.take t ++ [1]) = cy (S.take t) + 1 := by simp [cy]
      omega
  · rw [g1] at e
    rw [e] at l
    refine .inr (.inl ⟨g1, ?_, by rw [e]; exact Al.left h⟩)
    have : cx (S.take t ++ [2]) = cx (S.take t) + 1 := by simp [cx]
    omega
  · rw [g1] at e
    rw [e] at l
    refine .inr (.inr ⟨g1, ?_, by rw [e]; exact Al.right h⟩)
    have : cy (S.take t ++ [3]) = cy (S.take t) + 1 := by simp [cy]
    omega
end Go.Proofs.Ytkjffielnmdpcaa.Ed
