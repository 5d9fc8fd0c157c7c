/- Plain facts of words: cuts, symbols, intervals. -/
namespace Go.Proofs.Ytgdhgeongdenpaa.Wd
set_option linter.unusedVariables false
/-- cuts that ascend -/
def Cv (C : List Int) : Prop := C.length ≤ 15 ∧ (∀ i, i < C.length → -2000 ≤ C.getD i 0 ∧ C.getD i 0 ≤ 2000) ∧ ∀ i, i + 1 < C.length → C.getD i 0 < C.getD (i + 1) 0
theorem cv_lt {C : List Int} (h : Cv C) : ∀ {i j : Nat}, i < j → j < C.length → C.getD i 0 < C.getD j 0 := fun {i j} hij => by
  induction j with
  | zero => omega
  | succ j ih =>
    intro hj
    have h1 := h.2.2 j hj
    rcases Nat.lt_or_ge i j with k | k
    · have := ih k (by omega); omega
    · obtain rfl : i = j := by omega
      exact h1
/-- how many of the first cuts are at most c -/
def sym : List Int → Int → Nat
  | [], _ => 0
  | x :: C, c => if x ≤ c then sym C c + 1 else 0
theorem sym_le : ∀ (C : List Int) (c : Int), sym C c ≤ C.length
  | [], _ => Nat.le_refl _
  | x :: C, c => by
    have := sym_le C c
    unfold sym
    split
    · simp; exact this
    · simp
theorem sym_at {C : List Int} (h : ∀ {i j : Nat}, i < j → j < C.length → C.getD i 0 < C.getD j 0) (c : Int) : ∀ i, i < C.length → (C.getD i 0 ≤ c ↔ i < sym C c) := by
  induction C with
  | nil => intro i hi; simp at hi
  | cons x C ih =>
    intro i hi
    have h' : ∀ {i j : Nat}, i < j → j < C.length → C.getD i 0 < C.getD j 0 := fun {i j} a b => by simpa using h (i := i + 1) (j := j + 1) (by omega) (by simpa using b)
    unfold sym
    by_cases hx : x ≤ c
    · rw [if_pos hx]
      rcases i with _ | i
      · simp [hx]
      · have := ih h' i (by simpa using hi)
        simpa using this
    · rw [if_neg hx]
      rcases i with _ | i
      · simp [hx]
      · have h1 := h (i := 0) (j := i + 1) (by omega) hi
        have e0 : (x :: C).getD 0 0 = x := rfl
        rw [e0] at h1
        constructor
        · intro h2; omega
        · intro h2; omega
theorem sym_iff {C : List Int} (h : Cv C) (c : Int) (i : Nat) (hi : i < C.length) : C.getD i 0 ≤ c ↔ i < sym C c := sym_at (cv_lt h) c i hi
theorem sym_one {C : List Int} (h : Cv C) (c : Int) (k : Nat) (hk : k ≤ C.length) (h1 : ∀ i, i < k → C.getD i 0 ≤ c) (h2 : ∀ i, k ≤ i → i < C.length → c < C.getD i 0) : sym C c = k := by
  have hl := sym_le C c
  rcases Nat.lt_trichotomy (sym C c) k with g | g | g
  · have := (sym_iff h c (sym C c) (by omega)).1 (h1 _ g); omega
  · exact g
  · have := (sym_iff h c k (by omega)).2 g
    have := h2 k (Nat.le_refl _) (by omega)
    omega
/-- the interval of the symbols from f to t -/
def ivl (C : List Int) (f t : Nat) : Int × Int :=
  if C.length < f then (1, 0) else (if 0 < f then C.getD (f - 1) 0 else -1099511627776, if t < C.length then C.getD t 0 - 1 else 1099511627776)
theorem ivl_in {C : List Int} (h : Cv C) (f t : Nat) (hft : f ≤ t) (c : Int) (c1 : -1099511627776 ≤ c) (c2 : c ≤ 1099511627776) : ((ivl C f t).1 ≤ c ∧ c ≤ (ivl C f t).2) ↔ (f ≤ sym C c ∧ sym C c ≤ t) := by
  have hl := sym_le C c
  unfold ivl
  by_cases hf : C.length < f
  · rw [if_pos hf]
    constructor
    · rintro ⟨a, b⟩; simp at a b; omega
    · intro a; omega
  · rw [if_neg hf]
    have e1 : ((if 0 < f then C.getD (f - 1) 0 else -1099511627776 : Int) ≤ c) ↔ f ≤ sym C c := by
      by_cases h0 : 0 < f
      · rw [if_pos h0, sym_iff h c (f - 1) (by omega)]; omega
      · rw [if_neg h0]; omega
    have e2 : (c ≤ (if t < C.length then C.getD t 0 - 1 else 1099511627776 : Int)) ↔ sym C c ≤ t := by
      by_cases h0 : t < C.length
      · rw [if_pos h0]
        have := sym_iff h c t h0
        constructor
        · intro a
          have : ¬ C.getD t 0 ≤ c := by omega
          have : ¬ t < sym C c := fun b => this ((sym_iff h c t h0).2 b)
          omega
        · intro a
          have : ¬ C.getD t 0 ≤ c := fun b => by have := (sym_iff h c t h0).1 b; omega
          omega
      · rw [if_neg h0]; omega
    exact and_congr e1 e2
/-- a word of n pieces -/
def Wv (n : Nat) (S B : List Int) : Prop := S.length = n ∧ B.length = n ∧ ∀ p, p < n → 0 ≤ B.getD p 0 ∧ B.getD p 0 ≤ 4 ∧ 0 ≤ S.getD p 0 ∧ S.getD p 0 < 2 ^ (B.getD p 0).toNat
/-- the first and the last full symbol of a symbol of so many bits -/
def fst (s : Int) (b : Nat) : Nat := s.toNat * 2 ^ (4 - b)
def lst (s : Int) (b : Nat) : Nat := fst s b + 2 ^ (4 - b) - 1
theorem sh_in {F s : Int} {b : Nat} (F0 : 0 ≤ F) (s0 : 0 ≤ s) (b4 : b ≤ 4) : F / 2 ^ (4 - b) = s ↔ (fst s b ≤ F.toNat ∧ F.toNat ≤ lst s b) := by
  obtain ⟨f, rfl⟩ := Int.eq_ofNat_of_zero_le F0
  obtain ⟨t, rfl⟩ := Int.eq_ofNat_of_zero_le s0
  unfold lst fst
  rcases (by omega : b = 0 ∨ b = 1 ∨ b = 2 ∨ b = 3 ∨ b = 4) with rfl | rfl | rfl | rfl | rfl <;> simp <;> omega
end Go.Proofs.Ytgdhgeongdenpaa.Wd
