/- Plain facts about warping paths and their least costs (layer 14): no program here. -/
import Derived.Test.YtkonknkoggfeaaaEucMath
namespace Go.Proofs.Ytkonknkoggfeaaa.Wi
set_option linter.unusedVariables false
/-- the cost of a pair -/
def cst (X Y : List Int) (i j : Nat) : Int := (X.getD i 0 - Y.getD j 0) * (X.getD i 0 - Y.getD j 0)
theorem cst_in {X Y : List Int} (hs : Sam X) (ht : Sam Y) (i j : Nat) : 0 ≤ cst X Y i j ∧ cst X Y i j ≤ 4000000 := by
  have a := hs.at i
  have b := ht.at j
  exact sq_bd (B := 2000) (by omega) (by omega)
/-- a pair is within the band -/
def Bnd (b : Int) (i j : Nat) : Prop := (i : Int) - (j : Int) ≤ b ∧ (j : Int) - (i : Int) ≤ b
instance (b : Int) (i j : Nat) : Decidable (Bnd b i j) := by unfold Bnd; infer_instance
theorem Bnd.sym {b : Int} {i j : Nat} (h : Bnd b i j) : Bnd b j i := ⟨h.2, h.1⟩
def mn (a b : Int) : Int := if a ≤ b then a else b
theorem mn_le_left (a b : Int) : mn a b ≤ a := by unfold mn; split <;> omega
theorem mn_le_right (a b : Int) : mn a b ≤ b := by unfold mn; split <;> omega
theorem mn_comm (a b : Int) : mn a b = mn b a := by unfold mn; split <;> split <;> omega
theorem mn_or (a b : Int) : mn a b = a ∨ mn a b = b := by unfold mn; split <;> simp
theorem mn_ge {a b c : Int} (h1 : c ≤ a) (h2 : c ≤ b) : c ≤ mn a b := by unfold mn; split <;> omega
def mn3 (a b c : Int) : Int := mn (mn a b) c
theorem mn3_le (a b c : Int) : mn3 a b c ≤ a ∧ mn3 a b c ≤ b ∧ mn3 a b c ≤ c := by
  have h1 := mn_le_left (mn a b) c
  have h2 := mn_le_right (mn a b) c
  have h3 := mn_le_left a b
  have h4 := mn_le_right a b
  unfold mn3
  omega
theorem mn3_or (a b c : Int) : mn3 a b c = a ∨ mn3 a b c = b ∨ mn3 a b c = c := by
  unfold mn3
  rcases mn_or (mn a b) c with h | h
  · rw [h]
    rcases mn_or a b with h | h
    · exact .inl h
    · exact .inr (.inl h)
  · exact .inr (.inr h)
theorem mn3_swap (a b c : Int) : mn3 a b c = mn3 a c b := by unfold mn3 mn; repeat' split
                                                             all_goals omega
/-- what stands where no path leads -/
def far : Int := 4611686018427387904
/-- the least costs of the paths up to a pair, with a border -/
def wt (X Y : List Int) (b : Int) : Nat → Nat → Int
  | 0, 0 => 0
  | 0, _ + 1 => far
  | _ + 1, 0 => far
  | i + 1, j + 1 => if Bnd b i j then cst X Y i j + mn3 (wt X Y b i j) (wt X Y b i (j + 1)) (wt X Y b (i + 1) j) else far
termination_by i j => (i, j)
theorem wt_00 (X Y : List Int) (b : Int) : wt X Y b 0 0 = 0 := by rw [wt]
theorem wt_0s (X Y : List Int) (b : Int) (j : Nat) : wt X Y b 0 (j + 1) = far := by rw [wt]
theorem wt_s0 (X Y : List Int) (b : Int) (i : Nat) : wt X Y b (i + 1) 0 = far := by rw [wt]
theorem wt_in (X Y : List Int) (b : Int) (i j : Nat) (h : Bnd b i j) : wt X Y b (i + 1) (j + 1) = cst X Y i j + mn3 (wt X Y b i j) (wt X Y b i (j + 1)) (wt X Y b (i + 1) j) := by rw [wt, if_pos h]
theorem wt_out (X Y : List Int) (b : Int) (i j : Nat) (h : ¬ Bnd b i j) : wt X Y b (i + 1) (j + 1) = far := by rw [wt, if_neg h]
/-- one pair follows another -/
def Fol (i j p q : Nat) : Prop := (p = i + 1 ∧ q = j + 1) ∨ (p = i + 1 ∧ q = j) ∨ (p = i ∧ q = j + 1)
/-- a path, the pair where it begins, the one where it ends, its cost -/
inductive Pq (X Y : List Int) (b : Int) : Nat → Nat → List (Nat × Nat) → Nat → Nat → Int → Prop
  | one (i j : Nat) (h : Bnd b i j) : Pq X Y b i j [(i, j)] i j (cst X Y i j)
  | snoc {a c i j p q : Nat} {l : List (Nat × Nat)} {k : Int} (hp : Pq X Y b a c l i j k) (hf : Fol i j p q) (h : Bnd b p q) : Pq X Y b a c (l ++ [(p, q)]) p q (k + cst X Y p q)
theorem Pq.bnd {X Y : List Int} {b : Int} {a c i j : Nat} {l : List (Nat × Nat)} {k : Int} (h : Pq X Y b a c l i j k) : Bnd b i j := by
  cases h with
  | one h => exact h
  | snoc _ _ h => exact h
theorem Pq.cons {X Y : List Int} {b : Int} {a c i j p q : Nat} {l : List (Nat × Nat)} {k : Int} (hf : Fol p q a c) (hb : Bnd b p q) (h : Pq X Y b a c l i j k) : Pq X Y b p q ((p, q) :: l) i j (cst X Y p q + k) := by
  induction h with
  | one h =>
    have := Pq.snoc (Pq.one (X := X) (Y := Y) p q hb) hf h
    exact this
  | snoc hp hf2 h ih =>
    have := Pq.snoc ih hf2 h
    rw [Int.add_assoc] at this
    exact this
theorem wt_le {X Y : List Int} {b : Int} {i j : Nat} {l : List (Nat × Nat)} {k : Int} (h : Pq X Y b 0 0 l i j k) : wt X Y b (i + 1) (j + 1) ≤ k := by
  have key : ∀ {a c i j : Nat} {l : List (Nat × Nat)} {k : Int}, Pq X Y b a c l i j k → a = 0 → c = 0 → wt X Y b (i + 1) (j + 1) ≤ k := by
    intro a c i j l k h
    induction h with
    | one h =>
      rintro rfl rfl
      rw [wt_in _ _ _ _ _ h]
      have := (mn3_le (wt X Y b 0 0) (wt X Y b 0 (0 + 1)) (wt X Y b (0 + 1) 0)).1
      rw [wt_00] at this
      rw [wt_00]
      omega
    | @snoc i j p q l k hp hf h ih =>
      intro ha hc
      have h1 := ih ha hc
      rw [wt_in _ _ _ _ _ h]
      have h2 := mn3_le (wt X Y b p q) (wt X Y b p (q + 1)) (wt X Y b (p + 1) q)
      rcases hf with ⟨rfl, rfl⟩ | ⟨rfl, rfl⟩ | ⟨rfl, rfl⟩ <;> omega
  exact key h rfl rfl
/-- every pair within the band is reached -/
theorem wt_fin {X Y : List Int} {b : Int} (hs : Sam X) (ht : Sam Y) (hb : 0 ≤ b) : ∀ (n i j : Nat), i + j = n → Bnd b i j → 0 ≤ wt X Y b (i + 1) (j + 1) ∧ wt X Y b (i + 1) (j + 1) ≤ 4000000 * ((n : Int) + 1) := by
  have nn : ∀ (n i j : Nat), i + j = n → 0 ≤ wt X Y b i j := by
    intro n
    induction n using Nat.strongRecOn with
    | _ n ih =>
      intro i j h
      rcases i with _ | i
      · rcases j with _ | j
        · rw [wt_00]; omega
        · rw [wt_0s]; decide
      · rcases j with _ | j
        · rw [wt_s0]; decide
        · rcases Classical.em (Bnd b i j) with hB | hB
          · rw [wt_in _ _ _ _ _ hB]
            have h1 := ih (i + j) (by omega) i j rfl
            have h2 := ih (i + (j + 1)) (by omega) i (j + 1) rfl
            have h3 := ih (i + 1 + j) (by omega) (i + 1) j rfl
            have h4 := (cst_in hs ht i j).1
            have h5 : 0 ≤ mn3 (wt X Y b i j) (wt X Y b i (j + 1)) (wt X Y b (i + 1) j) := mn_ge (mn_ge h1 h2) h3
            omega
          · rw [wt_out _ _ _ _ _ hB]; decide
  intro n
  induction n using Nat.strongRecOn with
  | _ n ih =>
    intro i j h hB
    refine ⟨nn _ _ _ rfl, ?_⟩
    rw [wt_in _ _ _ _ _ hB]
    have hc := (cst_in hs ht i j).2
    have hm := mn3_le (wt X Y b i j) (wt X Y b i (j + 1)) (wt X Y b (i + 1) j)
    rcases i with _ | i
    · rcases j with _ | j
      · rw [wt_00] at *; omega
      · have := (ih j (by omega) 0 j (by omega) ⟨by have := hB.1; omega, by have := hB.2; omega⟩).2
        omega
    · rcases j with _ | j
      · have := (ih i (by omega) i 0 (by omega) ⟨by have := hB.1; omega, by have := hB.2; omega⟩).2
        omega
      · have := (ih (i + j) (by omega) i j (by omega) ⟨by have := hB.1; omega, by have := hB.2; omega⟩).2
        omega
theorem wt_nn {X Y : List Int} {b : Int} (hs : Sam X) (ht : Sam Y) (i j : Nat) : 0 ≤ wt X Y b i j := by
  have : ∀ (n i j : Nat), i + j = n → 0 ≤ wt X Y b i j := by
    intro n
    induction n using Nat.strongRecOn with
    | _ n ih =>
      intro i j h
      rcases i with _ | i
      · rcases j with _ | j
        · rw [wt_00]; omega
        · rw [wt_0s]; decide
      · rcases j with _ | j
        · rw [wt_s0]; decide
        · rcases Classical.em (Bnd b i j) with hB | hB
          · rw [wt_in _ _ _ _ _ hB]
            have h1 := ih (i + j) (by omega) i j rfl
            have h2 := ih (i + (j + 1)) (by omega) i (j + 1) rfl
            have h3 := ih (i + 1 + j) (by omega) (i + 1) j rfl
            have h4 := (cst_in hs ht i j).1
            have h5 : 0 ≤ mn3 (wt X Y b i j) (wt X Y b i (j + 1)) (wt X Y b (i + 1) j) := mn_ge (mn_ge h1 h2) h3
            omega
          · rw [wt_out _ _ _ _ _ hB]; decide
  exact this _ _ _ rfl
/-- a bound for all numbers of the table -/
theorem wt_hi {X Y : List Int} {b : Int} (hs : Sam X) (ht : Sam Y) (hb : 0 ≤ b) (i j : Nat) (hi : i ≤ 64) (hj : j ≤ 64) : wt X Y b i j ≤ far := by
  rcases i with _ | i
  · rcases j with _ | j
    · rw [wt_00]; decide
    · rw [wt_0s]; decide
  · rcases j with _ | j
    · rw [wt_s0]; decide
    · rcases Classical.em (Bnd b i j) with hB | hB
      · have := (wt_fin hs ht hb _ i j rfl hB).2
        unfold far
        omega
      · rw [wt_out _ _ _ _ _ hB]; decide
/-- the pair ahead of a pair within the band, as Path takes it -/
def bk (X Y : List Int) (b : Int) (i j : Nat) : Nat × Nat :=
  if wt X Y b i j ≤ wt X Y b i (j + 1) ∧ wt X Y b i j ≤ wt X Y b (i + 1) j then (i - 1, j - 1) else if wt X Y b i (j + 1) ≤ wt X Y b (i + 1) j then (i - 1, j) else (i, j - 1)
theorem wt_small {X Y : List Int} {b : Int} (hs : Sam X) (ht : Sam Y) (hb : 0 ≤ b) {i j : Nat} (hi : i ≤ 64) (hj : j ≤ 64) (hB : Bnd b i j) : wt X Y b (i + 1) (j + 1) < far := by
  have := (wt_fin hs ht hb _ i j rfl hB).2
  unfold far
  omega
theorem wt_cell {X Y : List Int} {b : Int} {i j : Nat} (h : wt X Y b i j < far) : (i = 0 ∧ j = 0) ∨ ∃ p q, i = p + 1 ∧ j = q + 1 ∧ Bnd b p q := by
  rcases i with _ | i
  · rcases j with _ | j
    · exact .inl ⟨rfl, rfl⟩
    · rw [wt_0s] at h; omega
  · rcases j with _ | j
    · rw [wt_s0] at h; omega
    · rcases Classical.em (Bnd b i j) with hB | hB
      · exact .inr ⟨i, j, rfl, rfl, hB⟩
      · rw [wt_out _ _ _ _ _ hB] at h; omega
/-- the pair ahead lies within the band, is followed by the pair, and has the least cost -/
theorem bk_ok {X Y : List Int} {b : Int} (hs : Sam X) (ht : Sam Y) (hb : 0 ≤ b) {i j : Nat} (hi : i ≤ 60) (hj : j ≤ 60) (hB : Bnd b i j) (h0 : 0 < i + j) :
    Fol (bk X Y b i j).1 (bk X Y b i j).2 i j ∧ Bnd b (bk X Y b i j).1 (bk X Y b i j).2 ∧ wt X Y b (i + 1) (j + 1) = cst X Y i j + wt X Y b ((bk X Y b i j).1 + 1) ((bk X Y b i j).2 + 1) := by
  have hW := wt_in X Y b i j hB
  have hS := wt_small hs ht hb (by omega) (by omega) hB
  have hc := (cst_in hs ht i j).1
  have hm : mn3 (wt X Y b i j) (wt X Y b i (j + 1)) (wt X Y b (i + 1) j) < far := by omega
  unfold bk
  rcases Classical.em (wt X Y b i j ≤ wt X Y b i (j + 1) ∧ wt X Y b i j ≤ wt X Y b (i + 1) j) with h1 | h1
  · rw [if_pos h1]
    have e : mn3 (wt X Y b i j) (wt X Y b i (j + 1)) (wt X Y b (i + 1) j) = wt X Y b i j := by
      have := mn3_le (wt X Y b i j) (wt X Y b i (j + 1)) (wt X Y b (i + 1) j)
      rcases mn3_or (wt X Y b i j) (wt X Y b i (j + 1)) (wt X Y b (i + 1) j) with h | h | h <;> omega
    rw [e] at hW hm
    rcases wt_cell hm with ⟨rfl, rfl⟩ | ⟨p, q, rfl, rfl, hpq⟩
    · omega
    · exact ⟨.inl ⟨by simp, by simp⟩, by simpa using hpq, by simpa using hW⟩
  · rw [if_neg h1]
    rcases Int.lt_or_le (wt X Y b (i + 1) j) (wt X Y b i (j + 1)) with h2 | h2
    · rw [if_neg (by omega)]
      have e : mn3 (wt X Y b i j) (wt X Y b i (j + 1)) (wt X Y b (i + 1) j) = wt X Y b (i + 1) j := by
        have := mn3_le (wt X Y b i j) (wt X Y b i (j + 1)) (wt X Y b (i + 1) j)
        rcases mn3_or (wt X Y b i j) (wt X Y b i (j + 1)) (wt X Y b (i + 1) j) with h | h | h <;> omega
      rw [e] at hW hm
      rcases wt_cell hm with ⟨h, _⟩ | ⟨p, q, hp, rfl, hpq⟩
      · omega
      · obtain rfl : i = p := by omega
        exact ⟨.inr (.inr ⟨by simp, by simp⟩), by simpa using hpq, by simpa using hW⟩
    · rw [if_pos h2]
      have e : mn3 (wt X Y b i j) (wt X Y b i (j + 1)) (wt X Y b (i + 1) j) = wt X Y b i (j + 1) := by
        have := mn3_le (wt X Y b i j) (wt X Y b i (j + 1)) (wt X Y b (i + 1) j)
        rcases mn3_or (wt X Y b i j) (wt X Y b i (j + 1)) (wt X Y b (i + 1) j) with h | h | h <;> omega
      rw [e] at hW hm
      rcases wt_cell hm with ⟨_, h⟩ | ⟨p, q, rfl, hq, hpq⟩
      · omega
      · obtain rfl : j = q := by omega
        exact ⟨.inr (.inl ⟨by simp, by simp⟩), by simpa using hpq, by simpa using hW⟩
theorem wt_one {X Y : List Int} {b : Int} (hb : 0 ≤ b) : wt X Y b 1 1 = cst X Y 0 0 := by
  rw [wt_in _ _ _ 0 0 ⟨by simpa using hb, by simpa using hb⟩, wt_00, wt_0s, wt_s0]
  show _ + mn3 0 far far = _
  rw [show mn3 0 far far = 0 from by decide]
  omega
/-- a path of the least cost -/
theorem wt_path {X Y : List Int} {b : Int} (hs : Sam X) (ht : Sam Y) (hb : 0 ≤ b) : ∀ (n i j : Nat), i + j = n → i ≤ 60 → j ≤ 60 → Bnd b i j → ∃ l, Pq X Y b 0 0 l i j (wt X Y b (i + 1) (j + 1)) := by
  intro n
  induction n using Nat.strongRecOn with
  | _ n ih =>
    intro i j h hi hj hB
    rcases Nat.eq_zero_or_pos (i + j) with h0 | h0
    · obtain rfl : i = 0 := by omega
      obtain rfl : j = 0 := by omega
      exact ⟨_, by rw [wt_one hb]; exact Pq.one 0 0 hB⟩
    · obtain ⟨f, B, e⟩ := bk_ok hs ht hb hi hj hB h0
      have lt : (bk X Y b i j).1 + (bk X Y b i j).2 < n ∧ (bk X Y b i j).1 ≤ 60 ∧ (bk X Y b i j).2 ≤ 60 := by
        rcases f with ⟨h1, h2⟩ | ⟨h1, h2⟩ | ⟨h1, h2⟩ <;> omega
      obtain ⟨l, hl⟩ := ih _ lt.1 _ _ rfl lt.2.1 lt.2.2 B
      refine ⟨l ++ [(i, j)], ?_⟩
      rw [e, Int.add_comm]
      exact Pq.snoc hl f hB
theorem wt_sym (X Y : List Int) (b : Int) : ∀ (n i j : Nat), i + j = n → wt X Y b i j = wt Y X b j i := by
  intro n
  induction n using Nat.strongRecOn with
  | _ n ih =>
    intro i j h
    rcases i with _ | i
    · rcases j with _ | j
      · rw [wt_00, wt_00]
      · rw [wt_0s, wt_s0]
    · rcases j with _ | j
      · rw [wt_s0, wt_0s]
      · rcases Classical.em (Bnd b i j) with hB | hB
        · rw [wt_in _ _ _ _ _ hB, wt_in _ _ _ _ _ hB.sym, ih (i + j) (by omega) i j rfl, ih (i + (j + 1)) (by omega) i (j + 1) rfl, ih (i + 1 + j) (by omega) (i + 1) j rfl, mn3_swap]
          congr 1
          unfold cst
          grind
        · rw [wt_out _ _ _ _ _ hB, wt_out _ _ _ _ _ (fun h => hB h.sym)]
theorem wt_mono {X Y : List Int} {b c : Int} (hs : Sam X) (ht : Sam Y) (hb : 0 ≤ b) (hbc : b ≤ c) {i j : Nat} (hi : i ≤ 60) (hj : j ≤ 60) (hB : Bnd b i j) : wt X Y c (i + 1) (j + 1) ≤ wt X Y b (i + 1) (j + 1) := by
  obtain ⟨l, hl⟩ := wt_path hs ht hb _ i j rfl hi hj hB
  have key : ∀ {a d i j : Nat} {l : List (Nat × Nat)} {k : Int}, Pq X Y b a d l i j k → Pq X Y c a d l i j k := by
    intro a d i j l k h
    induction h with
    | one h => exact Pq.one _ _ ⟨by have := h.1; omega, by have := h.2; omega⟩
    | snoc hp hf h ih => exact Pq.snoc ih hf ⟨by have := h.1; omega, by have := h.2; omega⟩
  exact wt_le (key hl)
/-- the band 0 -/
theorem wt_zero {X Y : List Int} (hs : Sam X) (ht : Sam Y) (hl : X.length = Y.length) : ∀ i, i ≤ X.length → i ≤ 60 → wt X Y 0 i i = su sq ((df X Y).take i) := by
  intro i
  induction i with
  | zero => intro _ _; rw [wt_00]; simp [su]
  | succ i ih =>
    intro h1 h2
    have e := ih (by omega) (by omega)
    have hB : Bnd 0 i i := ⟨by omega, by omega⟩
    have off : ∀ p q, p ≠ q → p ≤ 61 → q ≤ 61 → wt X Y 0 p q = far := by
      intro p q hpq hp hq
      rcases p with _ | p
      · rcases q with _ | q
        · omega
        · rw [wt_0s]
      · rcases q with _ | q
        · rw [wt_s0]
        · rw [wt_out]
          rintro ⟨h1, h2⟩
          omega
    rw [wt_in _ _ _ _ _ hB, off i (i + 1) (by omega) (by omega) (by omega), off (i + 1) i (by omega) (by omega) (by omega)]
    have hle := wt_hi (b := 0) hs ht (by omega) i i (by omega) (by omega)
    have : mn3 (wt X Y 0 i i) far far = wt X Y 0 i i := by
      have a := mn3_le (wt X Y 0 i i) far far
      rcases mn3_or (wt X Y 0 i i) far far with h | h | h <;> omega
    rw [this, e, su_next sq (df X Y) i (by rw [df_len hl]; omega), df_at hl i (by omega)]
    unfold cst sq
    omega
/-- the first and the last pair -/
theorem wt_first {X Y : List Int} {b : Int} (hs : Sam X) (ht : Sam Y) (hb : 0 ≤ b) : ∀ (n i j : Nat), i + j = n → i ≤ 60 → j ≤ 60 → cst X Y 0 0 ≤ wt X Y b (i + 1) (j + 1) := by
  intro n
  induction n using Nat.strongRecOn with
  | _ n ih =>
    intro i j h hi hj
    have c0 := cst_in hs ht 0 0
    rcases Classical.em (Bnd b i j) with hB | hB
    · rcases Nat.eq_zero_or_pos (i + j) with h0 | h0
      · obtain rfl : i = 0 := by omega
        obtain rfl : j = 0 := by omega
        rw [wt_one hb]; omega
      · obtain ⟨f, B, e⟩ := bk_ok hs ht hb hi hj hB h0
        have lt : (bk X Y b i j).1 + (bk X Y b i j).2 < n ∧ (bk X Y b i j).1 ≤ 60 ∧ (bk X Y b i j).2 ≤ 60 := by
          rcases f with ⟨h1, h2⟩ | ⟨h1, h2⟩ | ⟨h1, h2⟩ <;> omega
        have := ih _ lt.1 _ _ rfl lt.2.1 lt.2.2
        have := cst_in hs ht i j
        omega
    · rw [wt_out _ _ _ _ _ hB]
      unfold far
      omega
theorem wt_ends {X Y : List Int} {b : Int} (hs : Sam X) (ht : Sam Y) (hb : 0 ≤ b) {i j : Nat} (hi : i ≤ 60) (hj : j ≤ 60) (hB : Bnd b i j) (h0 : 0 < i + j) : cst X Y 0 0 + cst X Y i j ≤ wt X Y b (i + 1) (j + 1) := by
  obtain ⟨f, B, e⟩ := bk_ok hs ht hb hi hj hB h0
  have lt : (bk X Y b i j).1 ≤ 60 ∧ (bk X Y b i j).2 ≤ 60 := by
    rcases f with ⟨h1, h2⟩ | ⟨h1, h2⟩ | ⟨h1, h2⟩ <;> omega
  have := wt_first hs ht hb _ _ _ rfl lt.1 lt.2
  omega
/-- the table depends on what stands ahead of the pair alone -/
theorem wt_cong {X Y P Q : List Int} {b : Int} {n m : Nat} (hc : ∀ i j, i < n → j < m → cst X Y i j = cst P Q i j) : ∀ (k i j : Nat), i + j = k → i ≤ n → j ≤ m → wt X Y b i j = wt P Q b i j := by
  intro k
  induction k using Nat.strongRecOn with
  | _ k ih =>
    intro i j h hi hj
    rcases i with _ | i
    · rcases j with _ | j
      · rw [wt_00, wt_00]
      · rw [wt_0s, wt_0s]
    · rcases j with _ | j
      · rw [wt_s0, wt_s0]
      · rcases Classical.em (Bnd b i j) with hB | hB
        · rw [wt_in _ _ _ _ _ hB, wt_in _ _ _ _ _ hB, ih (i + j) (by omega) i j rfl (by omega) (by omega), ih (i + (j + 1)) (by omega) i (j + 1) rfl (by omega) (by omega), ih (i + 1 + j) (by omega) (i + 1) j rfl (by omega) (by omega), hc i j (by omega) (by omega)]
        · rw [wt_out _ _ _ _ _ hB, wt_out _ _ _ _ _ hB]
theorem getD_app {X : List Int} {v : Int} {i : Nat} (h : i < X.length) : (X ++ [v]).getD i 0 = X.getD i 0 := by
  rw [List.getD_eq_getElem?_getD, List.getD_eq_getElem?_getD, List.getElem?_append_left h]
theorem getD_last {X : List Int} {v : Int} : (X ++ [v]).getD X.length 0 = v := by
  simp [List.getD_eq_getElem?_getD]
theorem wt_more {X Y : List Int} {b v : Int} (hb : Bnd b X.length Y.length) : wt (X ++ [v]) (Y ++ [v]) b (X.length + 1) (Y.length + 1) ≤ wt X Y b X.length Y.length := by
  rw [wt_in _ _ _ _ _ hb]
  have h1 := (mn3_le (wt (X ++ [v]) (Y ++ [v]) b X.length Y.length) (wt (X ++ [v]) (Y ++ [v]) b X.length (Y.length + 1)) (wt (X ++ [v]) (Y ++ [v]) b (X.length + 1) Y.length)).1
  have h2 : cst (X ++ [v]) (Y ++ [v]) X.length Y.length = 0 := by unfold cst; rw [getD_last, getD_last]; simp
  have h3 : wt (X ++ [v]) (Y ++ [v]) b X.length Y.length = wt X Y b X.length Y.length := by
    refine wt_cong (n := X.length) (m := Y.length) (fun i j hi hj => ?_) _ _ _ rfl (by omega) (by omega)
    unfold cst
    rw [getD_app hi, getD_app hj]
  omega
/-- reversed windows of one length -/
theorem rev_at {X : List Int} {i : Nat} (h : i < X.length) : X.reverse.getD (X.length - 1 - i) 0 = X.getD i 0 := by
  rw [List.getD_eq_getElem?_getD, List.getD_eq_getElem?_getD, List.getElem?_reverse (by omega)]
  congr 2
  omega
theorem pq_rev {X Y : List Int} {b : Int} {n : Nat} (hx : X.length = n) (hy : Y.length = n) {a c i j : Nat} {l : List (Nat × Nat)} {k : Int} (h : Pq X Y b a c l i j k) : i < n → j < n → ∃ l', Pq X.reverse Y.reverse b (n - 1 - i) (n - 1 - j) l' (n - 1 - a) (n - 1 - c) k := by
  have ce : ∀ i j, i < n → j < n → cst X.reverse Y.reverse (n - 1 - i) (n - 1 - j) = cst X Y i j := by
    intro i j hi hj
    unfold cst
    have e1 : X.reverse.getD (n - 1 - i) 0 = X.getD i 0 := by rw [← hx]; exact rev_at (by omega)
    have e2 : Y.reverse.getD (n - 1 - j) 0 = Y.getD j 0 := by rw [← hy]; exact rev_at (by omega)
    rw [e1, e2]
  have be : ∀ i j, i < n → j < n → Bnd b i j → Bnd b (n - 1 - i) (n - 1 - j) := by
    rintro i j hi hj ⟨h1, h2⟩
    constructor <;> omega
  induction h with
  | one h =>
    intro hi hj
    refine ⟨[(n - 1 - a, n - 1 - c)], ?_⟩
    rw [← ce a c hi hj]
    exact Pq.one _ _ (be a c hi hj h)
  | @snoc i j p q l k hp hf h ih =>
    intro hi hj
    have lt : i < n ∧ j < n := by rcases hf with ⟨h1, h2⟩ | ⟨h1, h2⟩ | ⟨h1, h2⟩ <;> omega
    obtain ⟨l', hl⟩ := ih lt.1 lt.2
    refine ⟨(n - 1 - p, n - 1 - q) :: l', ?_⟩
    rw [Int.add_comm, ← ce p q hi hj]
    refine Pq.cons ?_ (be p q hi hj h) hl
    unfold Fol at *
    omega
theorem wt_rev {X Y : List Int} {b : Int} {n : Nat} (hs : Sam X) (ht : Sam Y) (hb : 0 ≤ b) (hx : X.length = n) (hy : Y.length = n) (h0 : 0 < n) (hn : n ≤ 60) : wt X.reverse Y.reverse b n n = wt X Y b n n := by
  obtain ⟨m, rfl⟩ : ∃ m, n = m + 1 := ⟨n - 1, by omega⟩
  have hB : Bnd b m m := ⟨by omega, by omega⟩
  have le : ∀ {X Y : List Int}, Sam X → Sam Y → X.length = m + 1 → Y.length = m + 1 → wt X.reverse Y.reverse b (m + 1) (m + 1) ≤ wt X Y b (m + 1) (m + 1) := by
    intro X Y hs ht hx hy
    obtain ⟨l, hl⟩ := wt_path hs ht hb _ m m rfl (by omega) (by omega) hB
    obtain ⟨l', hl'⟩ := pq_rev hx hy hl (by omega) (by omega)
    simp only [Nat.add_sub_cancel, Nat.sub_self, Nat.sub_zero] at hl'
    exact wt_le hl'
  have hr : ∀ {X : List Int}, Sam X → Sam X.reverse := fun h x hx => h x (List.mem_reverse.1 hx)
  have h1 := le hs ht hx hy
  have h2 := le (hr hs) (hr ht) (by simpa using hx) (by simpa using hy)
  rw [List.reverse_reverse, List.reverse_reverse] at h2
  omega
end Go.Proofs.Ytkonknkoggfeaaa.Wi
