/- Merged: WarpMath ChM ChA ChB ChC ChD ChL ChP ChQ ChU Euc0 ChE ChT. -/
import Derived.Test.YtpbnabibnkohdaaGreatDoorGc1
import Derived.Deep.RegionLaw
import Derived.Maps.AppendAt
import Derived.Lib.AppendZeros
import Derived.Laws.CopyOwn
import Derived.Laws.Bits64b
import Derived.Deep.RegionHeld3
import Derived.Shelf.Abstract
import Derived.BigQuiet
import Derived.Deep.DeepCutAuto
import Derived.Laws.EntriesVeiled
namespace Go.Proofs.YtpbnabibnkohdaaGreatDoor.Wi
set_option linter.unusedVariables false
/-- the cost of a pair -/
def cst (X Y : List Int) (i j : Nat) : Int := (X.getD i 0 - Y.getD j 0) * (X.getD i 0 - Y.getD j 0)
theorem cst_in {X Y : List Int} (hs : Sam X) (ht : Sam Y) (i j : Nat) : 0 ≤ cst X Y i j ∧ cst X Y i j ≤ 4000000 := by
  have a := hs.at i
  have b := ht.at j
  exact sq_bd (B := 2000) (by omega) (by omega)
/-- a pair is within the band -/
def Bnd (b : Int) (i j : Nat) : Prop := (i : Int) - (j : Int) ≤ b ∧ (j : Int) - (i : Int) ≤ b
instance (b : Int) (i j : Nat) : Decidable (Bnd b i j) := by unfold Bnd; infer_instance
theorem Bnd.sym {b : Int} {i j : Nat} (h : Bnd b i j) : Bnd b j i := ⟨h.2, h.1⟩
def mn (a b : Int) : Int := if a ≤ b then a else b
theorem mn_le_left (a b : Int) : mn a b ≤ a := by unfold mn; split <;> omega
theorem mn_le_right (a b : Int) : mn a b ≤ b := by unfold mn; split <;> omega
theorem mn_comm (a b : Int) : mn a b = mn b a := by unfold mn; split <;> split <;> omega
theorem mn_or (a b : Int) : mn a b = a ∨ mn a b = b := by unfold mn; split <;> simp
theorem mn_ge {a b c : Int} (h1 : c ≤ a) (h2 : c ≤ b) : c ≤ mn a b := by unfold mn; split <;> omega
def mn3 (a b c : Int) : Int := mn (mn a b) c
theorem mn3_le (a b c : Int) : mn3 a b c ≤ a ∧ mn3 a b c ≤ b ∧ mn3 a b c ≤ c := by
  have h1 := mn_le_left (mn a b) c
  have h2 := mn_le_right (mn a b) c
  have h3 := mn_le_left a b
  have h4 := mn_le_right a b
  unfold mn3
  omega
theorem mn3_or (a b c : Int) : mn3 a b c = a ∨ mn3 a b c = b ∨ mn3 a b c = c := by
  unfold mn3
  rcases mn_or (mn a b) c with h | h
  · rw [h]
    rcases mn_or a b with h | h
    · exact .inl h
    · exact .inr (.inl h)
  · exact .inr (.inr h)
theorem mn3_swap (a b c : Int) : mn3 a b c = mn3 a c b := by unfold mn3 mn; repeat' split
                                                             all_goals omega
/-- what stands where no path leads -/
def far : Int := 4611686018427387904
/-- the least costs of the paths up to a pair, with a border -/
def wt (X Y : List Int) (b : Int) : Nat → Nat → Int
  | 0, 0 => 0
  | 0, _ + 1 => far
  | _ + 1, 0 => far
  | i + 1, j + 1 => if Bnd b i j then cst X Y i j + mn3 (wt X Y b i j) (wt X Y b i (j + 1)) (wt X Y b (i + 1) j) else far
termination_by i j => (i, j)
theorem wt_00 (X Y : List Int) (b : Int) : wt X Y b 0 0 = 0 := by rw [wt]
theorem wt_0s (X Y : List Int) (b : Int) (j : Nat) : wt X Y b 0 (j + 1) = far := by rw [wt]
theorem wt_s0 (X Y : List Int) (b : Int) (i : Nat) : wt X Y b (i + 1) 0 = far := by rw [wt]
theorem wt_in (X Y : List Int) (b : Int) (i j : Nat) (h : Bnd b i j) : wt X Y b (i + 1) (j + 1) = cst X Y i j + mn3 (wt X Y b i j) (wt X Y b i (j + 1)) (wt X Y b (i + 1) j) := by rw [wt, if_pos h]
theorem wt_out (X Y : List Int) (b : Int) (i j : Nat) (h : ¬ Bnd b i j) : wt X Y b (i + 1) (j + 1) = far := by rw [wt, if_neg h]
/-- one pair follows another -/
def Fol (i j p q : Nat) : Prop := (p = i + 1 ∧ q = j + 1) ∨ (p = i + 1 ∧ q = j) ∨ (p = i ∧ q = j + 1)
/-- a path, the pair where it begins, the one where it ends, its cost -/
inductive Pq (X Y : List Int) (b : Int) : Nat → Nat → List (Nat × Nat) → Nat → Nat → Int → Prop
  | one (i j : Nat) (h : Bnd b i j) : Pq X Y b i j [(i, j)] i j (cst X Y i j)
  | snoc {a c i j p q : Nat} {l : List (Nat × Nat)} {k : Int} (hp : Pq X Y b a c l i j k) (hf : Fol i j p q) (h : Bnd b p q) : Pq X Y b a c (l ++ [(p, q)]) p q (k + cst X Y p q)
theorem Pq.bnd {X Y : List Int} {b : Int} {a c i j : Nat} {l : List (Nat × Nat)} {k : Int} (h : Pq X Y b a c l i j k) : Bnd b i j := by
  cases h with
  | one h => exact h
  | snoc _ _ h => exact h
theorem Pq.cons {X Y : List Int} {b : Int} {a c i j p q : Nat} {l : List (Nat × Nat)} {k : Int} (hf : Fol p q a c) (hb : Bnd b p q) (h : Pq X Y b a c l i j k) : Pq X Y b p q ((p, q) :: l) i j (cst X Y p q + k) := by
  induction h with
  | one h =>
    have := Pq.snoc (Pq.one (X := X) (Y := Y) p q hb) hf h
    exact this
  | snoc hp hf2 h ih =>
    have := Pq.snoc ih hf2 h
    rw [Int.add_assoc] at this
    exact this
theorem wt_le {X Y : List Int} {b : Int} {i j : Nat} {l : List (Nat × Nat)} {k : Int} (h : Pq X Y b 0 0 l i j k) : wt X Y b (i + 1) (j + 1) ≤ k := by
  have key : ∀ {a c i j : Nat} {l : List (Nat × Nat)} {k : Int}, Pq X Y b a c l i j k → a = 0 → c = 0 → wt X Y b (i + 1) (j + 1) ≤ k := by
    intro a c i j l k h
    induction h with
    | one h =>
      rintro rfl rfl
      rw [wt_in _ _ _ _ _ h]
      have := (mn3_le (wt X Y b 0 0) (wt X Y b 0 (0 + 1)) (wt X Y b (0 + 1) 0)).1
      rw [wt_00] at this
      rw [wt_00]
      omega
    | @snoc i j p q l k hp hf h ih =>
      intro ha hc
      have h1 := ih ha hc
      rw [wt_in _ _ _ _ _ h]
      have h2 := mn3_le (wt X Y b p q) (wt X Y b p (q + 1)) (wt X Y b (p + 1) q)
      rcases hf with ⟨rfl, rfl⟩ | ⟨rfl, rfl⟩ | ⟨rfl, rfl⟩ <;> omega
  exact key h rfl rfl
/-- every pair within the band is reached -/
theorem wt_fin {X Y : List Int} {b : Int} (hs : Sam X) (ht : Sam Y) (hb : 0 ≤ b) : ∀ (n i j : Nat), i + j = n → Bnd b i j → 0 ≤ wt X Y b (i + 1) (j + 1) ∧ wt X Y b (i + 1) (j + 1) ≤ 4000000 * ((n : Int) + 1) := by
  have nn : ∀ (n i j : Nat), i + j = n → 0 ≤ wt X Y b i j := by
    intro n
    induction n using Nat.strongRecOn with
    | _ n ih =>
      intro i j h
      rcases i with _ | i
      · rcases j with _ | j
        · rw [wt_00]; omega
        · rw [wt_0s]; decide
      · rcases j with _ | j
        · rw [wt_s0]; decide
        · rcases Classical.em (Bnd b i j) with hB | hB
          · rw [wt_in _ _ _ _ _ hB]
            have h1 := ih (i + j) (by omega) i j rfl
            have h2 := ih (i + (j + 1)) (by omega) i (j + 1) rfl
            have h3 := ih (i + 1 + j) (by omega) (i + 1) j rfl
            have h4 := (cst_in hs ht i j).1
            have h5 : 0 ≤ mn3 (wt X Y b i j) (wt X Y b i (j + 1)) (wt X Y b (i + 1) j) := mn_ge (mn_ge h1 h2) h3
            omega
          · rw [wt_out _ _ _ _ _ hB]; decide
  intro n
  induction n using Nat.strongRecOn with
  | _ n ih =>
    intro i j h hB
    refine ⟨nn _ _ _ rfl, ?_⟩
    rw [wt_in _ _ _ _ _ hB]
    have hc := (cst_in hs ht i j).2
    have hm := mn3_le (wt X Y b i j) (wt X Y b i (j + 1)) (wt X Y b (i + 1) j)
    rcases i with _ | i
    · rcases j with _ | j
      · rw [wt_00] at *; omega
      · have := (ih j (by omega) 0 j (by omega) ⟨by have := hB.1; omega, by have := hB.2; omega⟩).2
        omega
    · rcases j with _ | j
      · have := (ih i (by omega) i 0 (by omega) ⟨by have := hB.1; omega, by have := hB.2; omega⟩).2
        omega
      · have := (ih (i + j) (by omega) i j (by omega) ⟨by have := hB.1; omega, by have := hB.2; omega⟩).2
        omega
theorem wt_nn {X Y : List Int} {b : Int} (hs : Sam X) (ht : Sam Y) (i j : Nat) : 0 ≤ wt X Y b i j := by
  have : ∀ (n i j : Nat), i + j = n → 0 ≤ wt X Y b i j := by
    intro n
    induction n using Nat.strongRecOn with
    | _ n ih =>
      intro i j h
      rcases i with _ | i
      · rcases j with _ | j
        · rw [wt_00]; omega
        · rw [wt_0s]; decide
      · rcases j with _ | j
        · rw [wt_s0]; decide
        · rcases Classical.em (Bnd b i j) with hB | hB
          · rw [wt_in _ _ _ _ _ hB]
            have h1 := ih (i + j) (by omega) i j rfl
            have h2 := ih (i + (j + 1)) (by omega) i (j + 1) rfl
            have h3 := ih (i + 1 + j) (by omega) (i + 1) j rfl
            have h4 := (cst_in hs ht i j).1
            have h5 : 0 ≤ mn3 (wt X Y b i j) (wt X Y b i (j + 1)) (wt X Y b (i + 1) j) := mn_ge (mn_ge h1 h2) h3
            omega
          · rw [wt_out _ _ _ _ _ hB]; decide
  exact this _ _ _ rfl
/-- a bound for all numbers of the table -/
theorem wt_hi {X Y : List Int} {b : Int} (hs : Sam X) (ht : Sam Y) (hb : 0 ≤ b) (i j : Nat) (hi : i ≤ 64) (hj : j ≤ 64) : wt X Y b i j ≤ far := by
  rcases i with _ | i
  · rcases j with _ | j
    · rw [wt_00]; decide
    · rw [wt_0s]; decide
  · rcases j with _ | j
    · rw [wt_s0]; decide
    · rcases Classical.em (Bnd b i j) with hB | hB
      · have := (wt_fin hs ht hb _ i j rfl hB).2
        unfold far
        omega
      · rw [wt_out _ _ _ _ _ hB]; decide
/-- the pair ahead of a pair within the band, as Path takes it -/
def bk (X Y : List Int) (b : Int) (i j : Nat) : Nat × Nat :=
  if wt X Y b i j ≤ wt X Y b i (j + 1) ∧ wt X Y b i j ≤ wt X Y b (i + 1) j then (i - 1, j - 1) else if wt X Y b i (j + 1) ≤ wt X Y b (i + 1) j then (i - 1, j) else (i, j - 1)
theorem wt_small {X Y : List Int} {b : Int} (hs : Sam X) (ht : Sam Y) (hb : 0 ≤ b) {i j : Nat} (hi : i ≤ 64) (hj : j ≤ 64) (hB : Bnd b i j) : wt X Y b (i + 1) (j + 1) < far := by
  have := (wt_fin hs ht hb _ i j rfl hB).2
  unfold far
  omega
theorem wt_cell {X Y : List Int} {b : Int} {i j : Nat} (h : wt X Y b i j < far) : (i = 0 ∧ j = 0) ∨ ∃ p q, i = p + 1 ∧ j = q + 1 ∧ Bnd b p q := by
  rcases i with _ | i
  · rcases j with _ | j
    · exact .inl ⟨rfl, rfl⟩
    · rw [wt_0s] at h; omega
  · rcases j with _ | j
    · rw [wt_s0] at h; omega
    · rcases Classical.em (Bnd b i j) with hB | hB
      · exact .inr ⟨i, j, rfl, rfl, hB⟩
      · rw [wt_out _ _ _ _ _ hB] at h; omega
/-- the pair ahead lies within the band, is followed by the pair, and has the least cost -/
theorem bk_ok {X Y : List Int} {b : Int} (hs : Sam X) (ht : Sam Y) (hb : 0 ≤ b) {i j : Nat} (hi : i ≤ 60) (hj : j ≤ 60) (hB : Bnd b i j) (h0 : 0 < i + j) :
    Fol (bk X Y b i j).1 (bk X Y b i j).2 i j ∧ Bnd b (bk X Y b i j).1 (bk X Y b i j).2 ∧ wt X Y b (i + 1) (j + 1) = cst X Y i j + wt X Y b ((bk X Y b i j).1 + 1) ((bk X Y b i j).2 + 1) := by
  have hW := wt_in X Y b i j hB
  have hS := wt_small hs ht hb (by omega) (by omega) hB
  have hc := (cst_in hs ht i j).1
  have hm : mn3 (wt X Y b i j) (wt X Y b i (j + 1)) (wt X Y b (i + 1) j) < far := by omega
  unfold bk
  rcases Classical.em (wt X Y b i j ≤ wt X Y b i (j + 1) ∧ wt X Y b i j ≤ wt X Y b (i + 1) j) with h1 | h1
  · rw [if_pos h1]
    have e : mn3 (wt X Y b i j) (wt X Y b i (j + 1)) (wt X Y b (i + 1) j) = wt X Y b i j := by
      have := mn3_le (wt X Y b i j) (wt X Y b i (j + 1)) (wt X Y b (i + 1) j)
      rcases mn3_or (wt X Y b i j) (wt X Y b i (j + 1)) (wt X Y b (i + 1) j) with h | h | h <;> omega
    rw [e] at hW hm
    rcases wt_cell hm with ⟨rfl, rfl⟩ | ⟨p, q, rfl, rfl, hpq⟩
    · omega
    · exact ⟨.inl ⟨by simp, by simp⟩, by simpa using hpq, by simpa using hW⟩
  · rw [if_neg h1]
    rcases Int.lt_or_le (wt X Y b (i + 1) j) (wt X Y b i (j + 1)) with h2 | h2
    · rw [if_neg (by omega)]
      have e : mn3 (wt X Y b i j) (wt X Y b i (j + 1)) (wt X Y b (i + 1) j) = wt X Y b (i + 1) j := by
        have := mn3_le (wt X Y b i j) (wt X Y b i (j + 1)) (wt X Y b (i + 1) j)
        rcases mn3_or (wt X Y b i j) (wt X Y b i (j + 1)) (wt X Y b (i + 1) j) with h | h | h <;> omega
      rw [e] at hW hm
      rcases wt_cell hm with ⟨h, _⟩ | ⟨p, q, hp, rfl, hpq⟩
      · omega
      · obtain rfl : i = p := by omega
        exact ⟨.inr (.inr ⟨by simp, by simp⟩), by simpa using hpq, by simpa using hW⟩
    · rw [if_pos h2]
      have e : mn3 (wt X Y b i j) (wt X Y b i (j + 1)) (wt X Y b (i + 1) j) = wt X Y b i (j + 1) := by
        have := mn3_le (wt X Y b i j) (wt X Y b i (j + 1)) (wt X Y b (i + 1) j)
        rcases mn3_or (wt X Y b i j) (wt X Y b i (j + 1)) (wt X Y b (i + 1) j) with h | h | h <;> omega
      rw [e] at hW hm
      rcases wt_cell hm with ⟨_, h⟩ | ⟨p, q, rfl, hq, hpq⟩
      · omega
      · obtain rfl : j = q := by omega
        exact ⟨.inr (.inl ⟨by simp, by simp⟩), by simpa using hpq, by simpa using hW⟩
theorem wt_one {X Y : List Int} {b : Int} (hb : 0 ≤ b) : wt X Y b 1 1 = cst X Y 0 0 := by
  rw [wt_in _ _ _ 0 0 ⟨by simpa using hb, by simpa using hb⟩, wt_00, wt_0s, wt_s0]
  show _ + mn3 0 far far = _
  rw [show mn3 0 far far = 0 from by decide]
  omega
/-- a path of the least cost -/
theorem wt_path {X Y : List Int} {b : Int} (hs : Sam X) (ht : Sam Y) (hb : 0 ≤ b) : ∀ (n i j : Nat), i + j = n → i ≤ 60 → j ≤ 60 → Bnd b i j → ∃ l, Pq X Y b 0 0 l i j (wt X Y b (i + 1) (j + 1)) := by
  intro n
  induction n using Nat.strongRecOn with
  | _ n ih =>
    intro i j h hi hj hB
    rcases Nat.eq_zero_or_pos (i + j) with h0 | h0
    · obtain rfl : i = 0 := by omega
      obtain rfl : j = 0 := by omega
      exact ⟨_, by rw [wt_one hb]; exact Pq.one 0 0 hB⟩
    · obtain ⟨f, B, e⟩ := bk_ok hs ht hb hi hj hB h0
      have lt : (bk X Y b i j).1 + (bk X Y b i j).2 < n ∧ (bk X Y b i j).1 ≤ 60 ∧ (bk X Y b i j).2 ≤ 60 := by
        rcases f with ⟨h1, h2⟩ | ⟨h1, h2⟩ | ⟨h1, h2⟩ <;> omega
      obtain ⟨l, hl⟩ := ih _ lt.1 _ _ rfl lt.2.1 lt.2.2 B
      refine ⟨l ++ [(i, j)], ?_⟩
      rw [e, Int.add_comm]
      exact Pq.snoc hl f hB
theorem wt_sym (X Y : List Int) (b : Int) : ∀ (n i j : Nat), i + j = n → wt X Y b i j = wt Y X b j i := by
  intro n
  induction n using Nat.strongRecOn with
  | _ n ih =>
    intro i j h
    rcases i with _ | i
    · rcases j with _ | j
      · rw [wt_00, wt_00]
      · rw [wt_0s, wt_s0]
    · rcases j with _ | j
      · rw [wt_s0, wt_0s]
      · rcases Classical.em (Bnd b i j) with hB | hB
        · rw [wt_in _ _ _ _ _ hB, wt_in _ _ _ _ _ hB.sym, ih (i + j) (by omega) i j rfl, ih (i + (j + 1)) (by omega) i (j + 1) rfl, ih (i + 1 + j) (by omega) (i + 1) j rfl, mn3_swap]
          congr 1
          unfold cst
          grind
        · rw [wt_out _ _ _ _ _ hB, wt_out _ _ _ _ _ (fun h => hB h.sym)]
theorem wt_mono {X Y : List Int} {b c : Int} (hs : Sam X) (ht : Sam Y) (hb : 0 ≤ b) (hbc : b ≤ c) {i j : Nat} (hi : i ≤ 60) (hj : j ≤ 60) (hB : Bnd b i j) : wt X Y c (i + 1) (j + 1) ≤ wt X Y b (i + 1) (j + 1) := by
  obtain ⟨l, hl⟩ := wt_path hs ht hb _ i j rfl hi hj hB
  have key : ∀ {a d i j : Nat} {l : List (Nat × Nat)} {k : Int}, Pq X Y b a d l i j k → Pq X Y c a d l i j k := by
    intro a d i j l k h
    induction h with
    | one h => exact Pq.one _ _ ⟨by have := h.1; omega, by have := h.2; omega⟩
    | snoc hp hf h ih => exact Pq.snoc ih hf ⟨by have := h.1; omega, by have := h.2; omega⟩
  exact wt_le (key hl)
/-- the band 0 -/
theorem wt_zero {X Y : List Int} (hs : Sam X) (ht : Sam Y) (hl : X.length = Y.length) : ∀ i, i ≤ X.length → i ≤ 60 → wt X Y 0 i i = su sq ((df X Y).take i) := by
  intro i
  induction i with
  | zero => intro _ _; rw [wt_00]; simp [su]
  | succ i ih =>
    intro h1 h2
    have e := ih (by omega) (by omega)
    have hB : Bnd 0 i i := ⟨by omega, by omega⟩
    have off : ∀ p q, p ≠ q → p ≤ 61 → q ≤ 61 → wt X Y 0 p q = far := by
      intro p q hpq hp hq
      rcases p with _ | p
      · rcases q with _ | q
        · omega
        · rw [wt_0s]
      · rcases q with _ | q
        · rw [wt_s0]
        · rw [wt_out]
          rintro ⟨h1, h2⟩
          omega
    rw [wt_in _ _ _ _ _ hB, off i (i + 1) (by omega) (by omega) (by omega), off (i + 1) i (by omega) (by omega) (by omega)]
    have hle := wt_hi (b := 0) hs ht (by omega) i i (by omega) (by omega)
    have : mn3 (wt X Y 0 i i) far far = wt X Y 0 i i := by
      have a := mn3_le (wt X Y 0 i i) far far
      rcases mn3_or (wt X Y 0 i i) far far with h | h | h <;> omega
    rw [this, e, su_next sq (df X Y) i (by rw [df_len hl]; omega), df_at hl i (by omega)]
    unfold cst sq
    omega
/-- the first and the last pair -/
theorem wt_first {X Y : List Int} {b : Int} (hs : Sam X) (ht : Sam Y) (hb : 0 ≤ b) : ∀ (n i j : Nat), i + j = n → i ≤ 60 → j ≤ 60 → cst X Y 0 0 ≤ wt X Y b (i + 1) (j + 1) := by
  intro n
  induction n using Nat.strongRecOn with
  | _ n ih =>
    intro i j h hi hj
    have c0 := cst_in hs ht 0 0
    rcases Classical.em (Bnd b i j) with hB | hB
    · rcases Nat.eq_zero_or_pos (i + j) with h0 | h0
      · obtain rfl : i = 0 := by omega
        obtain rfl : j = 0 := by omega
        rw [wt_one hb]; omega
      · obtain ⟨f, B, e⟩ := bk_ok hs ht hb hi hj hB h0
        have lt : (bk X Y b i j).1 + (bk X Y b i j).2 < n ∧ (bk X Y b i j).1 ≤ 60 ∧ (bk X Y b i j).2 ≤ 60 := by
          rcases f with ⟨h1, h2⟩ | ⟨h1, h2⟩ | ⟨h1, h2⟩ <;> omega
        have := ih _ lt.1 _ _ rfl lt.2.1 lt.2.2
        have := cst_in hs ht i j
        omega
    · rw [wt_out _ _ _ _ _ hB]
      unfold far
      omega
theorem wt_ends {X Y : List Int} {b : Int} (hs : Sam X) (ht : Sam Y) (hb : 0 ≤ b) {i j : Nat} (hi : i ≤ 60) (hj : j ≤ 60) (hB : Bnd b i j) (h0 : 0 < i + j) : cst X Y 0 0 + cst X Y i j ≤ wt X Y b (i + 1) (j + 1) := by
  obtain ⟨f, B, e⟩ := bk_ok hs ht hb hi hj hB h0
  have lt : (bk X Y b i j).1 ≤ 60 ∧ (bk X Y b i j).2 ≤ 60 := by
    rcases f with ⟨h1, h2⟩ | ⟨h1, h2⟩ | ⟨h1, h2⟩ <;> omega
  have := wt_first hs ht hb _ _ _ rfl lt.1 lt.2
  omega
/-- the table depends on what stands ahead of the pair alone -/
theorem wt_cong {X Y P Q : List Int} {b : Int} {n m : Nat} (hc : ∀ i j, i < n → j < m → cst X Y i j = cst P Q i j) : ∀ (k i j : Nat), i + j = k → i ≤ n → j ≤ m → wt X Y b i j = wt P Q b i j := by
  intro k
  induction k using Nat.strongRecOn with
  | _ k ih =>
    intro i j h hi hj
    rcases i with _ | i
    · rcases j with _ | j
      · rw [wt_00, wt_00]
      · rw [wt_0s, wt_0s]
    · rcases j with _ | j
      · rw [wt_s0, wt_s0]
      · rcases Classical.em (Bnd b i j) with hB | hB
        · rw [wt_in _ _ _ _ _ hB, wt_in _ _ _ _ _ hB, ih (i + j) (by omega) i j rfl (by omega) (by omega), ih (i + (j + 1)) (by omega) i (j + 1) rfl (by omega) (by omega), ih (i + 1 + j) (by omega) (i + 1) j rfl (by omega) (by omega), hc i j (by omega) (by omega)]
        · rw [wt_out _ _ _ _ _ hB, wt_out _ _ _ _ _ hB]
theorem getD_app {X : List Int} {v : Int} {i : Nat} (h : i < X.length) : (X ++ [v]).getD i 0 = X.getD i 0 := by
  rw [List.getD_eq_getElem?_getD, List.getD_eq_getElem?_getD, List.getElem?_append_left h]
theorem getD_last {X : List Int} {v : Int} : (X ++ [v]).getD X.length 0 = v := by
  simp [List.getD_eq_getElem?_getD]
theorem wt_more {X Y : List Int} {b v : Int} (hb : Bnd b X.length Y.length) : wt (X ++ [v]) (Y ++ [v]) b (X.length + 1) (Y.length + 1) ≤ wt X Y b X.length Y.length := by
  rw [wt_in _ _ _ _ _ hb]
  have h1 := (mn3_le (wt (X ++ [v]) (Y ++ [v]) b X.length Y.length) (wt (X ++ [v]) (Y ++ [v]) b X.length (Y.length + 1)) (wt (X ++ [v]) (Y ++ [v]) b (X.length + 1) Y.length)).1
  have h2 : cst (X ++ [v]) (Y ++ [v]) X.length Y.length = 0 := by unfold cst; rw [getD_last, getD_last]; simp
  have h3 : wt (X ++ [v]) (Y ++ [v]) b X.length Y.length = wt X Y b X.length Y.length := by
    refine wt_cong (n := X.length) (m := Y.length) (fun i j hi hj => ?_) _ _ _ rfl (by omega) (by omega)
    unfold cst
    rw [getD_app hi, getD_app hj]
  omega
/-- reversed windows of one length -/
theorem rev_at {X : List Int} {i : Nat} (h : i < X.length) : X.reverse.getD (X.length - 1 - i) 0 = X.getD i 0 := by
  rw [List.getD_eq_getElem?_getD, List.getD_eq_getElem?_getD, List.getElem?_reverse (by omega)]
  congr 2
  omega
theorem pq_rev {X Y : List Int} {b : Int} {n : Nat} (hx : X.length = n) (hy : Y.length = n) {a c i j : Nat} {l : List (Nat × Nat)} {k : Int} (h : Pq X Y b a c l i j k) : i < n → j < n → ∃ l', Pq X.reverse Y.reverse b (n - 1 - i) (n - 1 - j) l' (n - 1 - a) (n - 1 - c) k := by
  have ce : ∀ i j, i < n → j < n → cst X.reverse Y.reverse (n - 1 - i) (n - 1 - j) = cst X Y i j := by
    intro i j hi hj
    unfold cst
    have e1 : X.reverse.getD (n - 1 - i) 0 = X.getD i 0 := by rw [← hx]; exact rev_at (by omega)
    have e2 : Y.reverse.getD (n - 1 - j) 0 = Y.getD j 0 := by rw [← hy]; exact rev_at (by omega)
    rw [e1, e2]
  have be : ∀ i j, i < n → j < n → Bnd b i j → Bnd b (n - 1 - i) (n - 1 - j) := by
    rintro i j hi hj ⟨h1, h2⟩
    constructor <;> omega
  induction h with
  | one h =>
    intro hi hj
    refine ⟨[(n - 1 - a, n - 1 - c)], ?_⟩
    rw [← ce a c hi hj]
    exact Pq.one _ _ (be a c hi hj h)
  | @snoc i j p q l k hp hf h ih =>
    intro hi hj
    have lt : i < n ∧ j < n := by rcases hf with ⟨h1, h2⟩ | ⟨h1, h2⟩ | ⟨h1, h2⟩ <;> omega
    obtain ⟨l', hl⟩ := ih lt.1 lt.2
    refine ⟨(n - 1 - p, n - 1 - q) :: l', ?_⟩
    rw [Int.add_comm, ← ce p q hi hj]
    refine Pq.cons ?_ (be p q hi hj h) hl
    unfold Fol at *
    omega
theorem wt_rev {X Y : List Int} {b : Int} {n : Nat} (hs : Sam X) (ht : Sam Y) (hb : 0 ≤ b) (hx : X.length = n) (hy : Y.length = n) (h0 : 0 < n) (hn : n ≤ 60) : wt X.reverse Y.reverse b n n = wt X Y b n n := by
  obtain ⟨m, rfl⟩ : ∃ m, n = m + 1 := ⟨n - 1, by omega⟩
  have hB : Bnd b m m := ⟨by omega, by omega⟩
  have le : ∀ {X Y : List Int}, Sam X → Sam Y → X.length = m + 1 → Y.length = m + 1 → wt X.reverse Y.reverse b (m + 1) (m + 1) ≤ wt X Y b (m + 1) (m + 1) := by
    intro X Y hs ht hx hy
    obtain ⟨l, hl⟩ := wt_path hs ht hb _ m m rfl (by omega) (by omega) hB
    obtain ⟨l', hl'⟩ := pq_rev hx hy hl (by omega) (by omega)
    simp only [Nat.add_sub_cancel, Nat.sub_self, Nat.sub_zero] at hl'
    exact wt_le hl'
  have hr : ∀ {X : List Int}, Sam X → Sam X.reverse := fun h x hx => h x (List.mem_reverse.1 hx)
  have h1 := le hs ht hx hy
  have h2 := le (hr hs) (hr ht) (by simpa using hx) (by simpa using hy)
  rw [List.reverse_reverse, List.reverse_reverse] at h2
  omega
end Go.Proofs.YtpbnabibnkohdaaGreatDoor.Wi
namespace Go.Proofs.YtpbnabibnkohdaaGreatDoor.Wi
set_option linter.unusedVariables false
/-- costs of pairs within bounds -/
def Fb (f : Nat → Nat → Int) : Prop := ∀ i j, 0 ≤ f i j ∧ f i j ≤ 20000000
/-- the least costs of the paths up to a pair, with a border -/
def wg (f : Nat → Nat → Int) (b : Int) : Nat → Nat → Int
  | 0, 0 => 0
  | 0, _ + 1 => far
  | _ + 1, 0 => far
  | i + 1, j + 1 => if Bnd b i j then f i j + mn3 (wg f b i j) (wg f b i (j + 1)) (wg f b (i + 1) j) else far
termination_by i j => (i, j)
theorem wg_00 (f : Nat → Nat → Int) (b : Int) : wg f b 0 0 = 0 := by rw [wg]
theorem wg_0s (f : Nat → Nat → Int) (b : Int) (j : Nat) : wg f b 0 (j + 1) = far := by rw [wg]
theorem wg_s0 (f : Nat → Nat → Int) (b : Int) (i : Nat) : wg f b (i + 1) 0 = far := by rw [wg]
theorem wg_in (f : Nat → Nat → Int) (b : Int) (i j : Nat) (h : Bnd b i j) : wg f b (i + 1) (j + 1) = f i j + mn3 (wg f b i j) (wg f b i (j + 1)) (wg f b (i + 1) j) := by rw [wg, if_pos h]
theorem wg_out (f : Nat → Nat → Int) (b : Int) (i j : Nat) (h : ¬ Bnd b i j) : wg f b (i + 1) (j + 1) = far := by rw [wg, if_neg h]
/-- every pair within the band is reached -/
theorem wg_fin {f : Nat → Nat → Int} {b : Int} (hf : Fb f) (hb : 0 ≤ b) : ∀ (n i j : Nat), i + j = n → Bnd b i j → 0 ≤ wg f b (i + 1) (j + 1) ∧ wg f b (i + 1) (j + 1) ≤ 20000000 * ((n : Int) + 1) := by
  have nn : ∀ (n i j : Nat), i + j = n → 0 ≤ wg f b i j := by
    intro n
    induction n using Nat.strongRecOn with
    | _ n ih =>
      intro i j h
      rcases i with _ | i
      · rcases j with _ | j
        · rw [wg_00]; omega
        · rw [wg_0s]; decide
      · rcases j with _ | j
        · rw [wg_s0]; decide
        · rcases Classical.em (Bnd b i j) with hB | hB
          · rw [wg_in _ _ _ _ hB]
            have h1 := ih (i + j) (by omega) i j rfl
            have h2 := ih (i + (j + 1)) (by omega) i (j + 1) rfl
            have h3 := ih (i + 1 + j) (by omega) (i + 1) j rfl
            have h4 := (hf i j).1
            have h5 : 0 ≤ mn3 (wg f b i j) (wg f b i (j + 1)) (wg f b (i + 1) j) := mn_ge (mn_ge h1 h2) h3
            omega
          · rw [wg_out _ _ _ _ hB]; decide
  intro n
  induction n using Nat.strongRecOn with
  | _ n ih =>
    intro i j h hB
    refine ⟨nn _ _ _ rfl, ?_⟩
    rw [wg_in _ _ _ _ hB]
    have hc := (hf i j).2
    have hm := mn3_le (wg f b i j) (wg f b i (j + 1)) (wg f b (i + 1) j)
    rcases i with _ | i
    · rcases j with _ | j
      · rw [wg_00] at *; omega
      · have := (ih j (by omega) 0 j (by omega) ⟨by have := hB.1; omega, by have := hB.2; omega⟩).2
        omega
    · rcases j with _ | j
      · have := (ih i (by omega) i 0 (by omega) ⟨by have := hB.1; omega, by have := hB.2; omega⟩).2
        omega
      · have := (ih (i + j) (by omega) i j (by omega) ⟨by have := hB.1; omega, by have := hB.2; omega⟩).2
        omega
theorem wg_nn {f : Nat → Nat → Int} {b : Int} (hf : Fb f) (i j : Nat) : 0 ≤ wg f b i j := by
  have : ∀ (n i j : Nat), i + j = n → 0 ≤ wg f b i j := by
    intro n
    induction n using Nat.strongRecOn with
    | _ n ih =>
      intro i j h
      rcases i with _ | i
      · rcases j with _ | j
        · rw [wg_00]; omega
        · rw [wg_0s]; decide
      · rcases j with _ | j
        · rw [wg_s0]; decide
        · rcases Classical.em (Bnd b i j) with hB | hB
          · rw [wg_in _ _ _ _ hB]
            have h1 := ih (i + j) (by omega) i j rfl
            have h2 := ih (i + (j + 1)) (by omega) i (j + 1) rfl
            have h3 := ih (i + 1 + j) (by omega) (i + 1) j rfl
            have h4 := (hf i j).1
            have h5 : 0 ≤ mn3 (wg f b i j) (wg f b i (j + 1)) (wg f b (i + 1) j) := mn_ge (mn_ge h1 h2) h3
            omega
          · rw [wg_out _ _ _ _ hB]; decide
  exact this _ _ _ rfl
/-- a bound for all numbers of the table -/
theorem wg_hi {f : Nat → Nat → Int} {b : Int} (hf : Fb f) (hb : 0 ≤ b) (i j : Nat) (hi : i ≤ 64) (hj : j ≤ 64) : wg f b i j ≤ far := by
  rcases i with _ | i
  · rcases j with _ | j
    · rw [wg_00]; decide
    · rw [wg_0s]; decide
  · rcases j with _ | j
    · rw [wg_s0]; decide
    · rcases Classical.em (Bnd b i j) with hB | hB
      · have := (wg_fin hf hb _ i j rfl hB).2
        unfold far
        omega
      · rw [wg_out _ _ _ _ hB]; decide
theorem wg_small {f : Nat → Nat → Int} {b : Int} (hf : Fb f) (hb : 0 ≤ b) {i j : Nat} (hi : i ≤ 64) (hj : j ≤ 64) (hB : Bnd b i j) : wg f b (i + 1) (j + 1) < far := by
  have := (wg_fin hf hb _ i j rfl hB).2
  unfold far
  omega

theorem wg_cst (X Y : List Int) (b : Int) : ∀ (n i j : Nat), i + j = n → wt X Y b i j = wg (cst X Y) b i j := by
  intro n
  induction n using Nat.strongRecOn with
  | _ n ih =>
    intro i j h
    rcases i with _ | i
    · rcases j with _ | j
      · rw [wt_00, wg_00]
      · rw [wt_0s, wg_0s]
    · rcases j with _ | j
      · rw [wt_s0, wg_s0]
      · rcases Classical.em (Bnd b i j) with hB | hB
        · rw [wt_in _ _ _ _ _ hB, wg_in _ _ _ _ hB, ih (i + j) (by omega) i j rfl, ih (i + (j + 1)) (by omega) i (j + 1) rfl, ih (i + 1 + j) (by omega) (i + 1) j rfl]
        · rw [wt_out _ _ _ _ _ hB, wg_out _ _ _ _ hB]
theorem mn3_mono {a b c d e k : Int} (h1 : a ≤ d) (h2 : b ≤ e) (h3 : c ≤ k) : mn3 a b c ≤ mn3 d e k := by
  have h := mn3_le a b c
  exact mn_ge (mn_ge (by omega) (by omega)) (by omega)
theorem wg_mono {f g : Nat → Nat → Int} {b : Int} (hfg : ∀ i j, f i j ≤ g i j) : ∀ (n i j : Nat), i + j = n → wg f b i j ≤ wg g b i j := by
  intro n
  induction n using Nat.strongRecOn with
  | _ n ih =>
    intro i j h
    rcases i with _ | i
    · rcases j with _ | j
      · rw [wg_00, wg_00]; exact Int.le_refl _
      · rw [wg_0s, wg_0s]; exact Int.le_refl _
    · rcases j with _ | j
      · rw [wg_s0, wg_s0]; exact Int.le_refl _
      · rcases Classical.em (Bnd b i j) with hB | hB
        · rw [wg_in _ _ _ _ hB, wg_in _ _ _ _ hB]
          have := mn3_mono (ih (i + j) (by omega) i j rfl) (ih (i + (j + 1)) (by omega) i (j + 1) rfl) (ih (i + 1 + j) (by omega) (i + 1) j rfl)
          have := hfg i j
          omega
        · rw [wg_out _ _ _ _ hB, wg_out _ _ _ _ hB]; exact Int.le_refl _
/-- least costs of two kinds together are no less than each alone -/
theorem wg_add {f g : Nat → Nat → Int} {b : Int} (hf : Fb f) (hg : Fb g) : ∀ (n i j : Nat), i + j = n → wg (fun i j => f i j + g i j) b i j < far → wg f b i j + wg g b i j ≤ wg (fun i j => f i j + g i j) b i j := by
  intro n
  induction n using Nat.strongRecOn with
  | _ n ih =>
    intro i j h hlt
    rcases i with _ | i
    · rcases j with _ | j
      · rw [wg_00, wg_00, wg_00]; omega
      · rw [wg_0s] at hlt; omega
    · rcases j with _ | j
      · rw [wg_s0] at hlt; omega
      · rcases Classical.em (Bnd b i j) with hB | hB
        · rw [wg_in _ _ _ _ hB] at hlt
          rw [wg_in _ _ _ _ hB, wg_in _ _ _ _ hB, wg_in _ _ _ _ hB]
          have a1 := ih (i + j) (by omega) i j rfl
          have a2 := ih (i + (j + 1)) (by omega) i (j + 1) rfl
          have a3 := ih (i + 1 + j) (by omega) (i + 1) j rfl
          have c1 := (hf i j).1
          have c2 := (hg i j).1
          have l1 := mn3_le (wg f b i j) (wg f b i (j + 1)) (wg f b (i + 1) j)
          have l2 := mn3_le (wg g b i j) (wg g b i (j + 1)) (wg g b (i + 1) j)
          rcases mn3_or (wg (fun i j => f i j + g i j) b i j) (wg (fun i j => f i j + g i j) b i (j + 1)) (wg (fun i j => f i j + g i j) b (i + 1) j) with e | e | e
          · rw [e] at hlt ⊢
            have := a1 (by omega)
            omega
          · rw [e] at hlt ⊢
            have := a2 (by omega)
            omega
          · rw [e] at hlt ⊢
            have := a3 (by omega)
            omega
        · rw [wg_out _ _ _ _ hB] at hlt; omega
/-- the costs along the diagonal -/
def dg (f : Nat → Nat → Int) : Nat → Int
  | 0 => 0
  | n + 1 => dg f n + f n n
theorem wg_diag {f : Nat → Nat → Int} {b : Int} (hb : 0 ≤ b) : ∀ n, wg f b n n ≤ dg f n
  | 0 => by rw [wg_00]; exact Int.le_refl _
  | n + 1 => by
    rw [wg_in _ _ _ _ ⟨by omega, by omega⟩]
    have h1 := wg_diag (f := f) hb n
    have h2 := (mn3_le (wg f b n n) (wg f b n (n + 1)) (wg f b (n + 1) n)).1
    show _ ≤ dg f n + f n n
    omega
theorem dg_add (f g : Nat → Nat → Int) : ∀ n, dg (fun i j => f i j + g i j) n = dg f n + dg g n
  | 0 => rfl
  | n + 1 => by
    show dg (fun i j => f i j + g i j) n + (f n n + g n n) = dg f n + f n n + (dg g n + g n n)
    rw [dg_add f g n]; omega
theorem dg_cst {X Y : List Int} (hs : Sam X) (ht : Sam Y) (hl : X.length = Y.length) (h60 : X.length ≤ 60) : ∀ n, n ≤ X.length → dg (cst X Y) n = su sq ((df X Y).take n) := by
  intro n
  induction n with
  | zero => intro _; rfl
  | succ n ih =>
    intro hn
    have e0 := wt_zero hs ht hl n (by omega) (by omega)
    have e1 := wt_zero hs ht hl (n + 1) hn (by omega)
    have hd : n < (df X Y).length := by
      have : (df X Y).length = X.length := by simp [df, hl]
      omega
    rw [su_next sq (df X Y) n hd, ← ih (by omega)]
    show dg (cst X Y) n + cst X Y n n = _
    congr 1
    simp only [cst, df, sq, List.getD_eq_getElem?_getD]
    simp [List.getElem?_zipWith, show n < X.length by omega, show n < Y.length by omega]
/-- the cost of a pair in all channels; the sums of least costs and of squares over the channels -/
def fsum : List (List Int) → List (List Int) → Nat → Nat → Int
  | x :: xs, y :: ys => fun i j => cst x y i j + fsum xs ys i j
  | _, _ => fun _ _ => 0
def asum (b : Int) (n m : Nat) : List (List Int) → List (List Int) → Int
  | x :: xs, y :: ys => wt x y b n m + asum b n m xs ys
  | _, _ => 0
def esum : List (List Int) → List (List Int) → Int
  | x :: xs, y :: ys => su sq (df x y) + esum xs ys
  | _, _ => 0
/-- channels of samples -/
def Sams (xs : List (List Int)) (n : Nat) : Prop := ∀ x ∈ xs, Sam x ∧ x.length = n
theorem fsum_in : ∀ (xs ys : List (List Int)) (n m : Nat), Sams xs n → Sams ys m → ∀ i j, 0 ≤ fsum xs ys i j ∧ fsum xs ys i j ≤ 4000000 * (xs.length : Int)
  | [], _, _, _, _, _, _, _ => ⟨Int.le_refl _, by simp [fsum]⟩
  | _ :: _, [], _, _, _, _, _, _ => ⟨Int.le_refl _, by simp [fsum]; omega⟩
  | x :: xs, y :: ys, n, m, h, k, i, j => by
    have ih := fsum_in xs ys n m (fun z hz => h z (List.mem_cons_of_mem _ hz)) (fun z hz => k z (List.mem_cons_of_mem _ hz)) i j
    have hc := cst_in (h x List.mem_cons_self).1 (k y List.mem_cons_self).1 i j
    show 0 ≤ cst x y i j + fsum xs ys i j ∧ cst x y i j + fsum xs ys i j ≤ 4000000 * ((x :: xs).length : Int)
    rw [List.length_cons]
    omega
theorem fsum_fb {xs ys : List (List Int)} {n m : Nat} (h : Sams xs n) (k : Sams ys m) (h5 : xs.length ≤ 5) : Fb (fsum xs ys) := fun i j => by
  have := fsum_in xs ys n m h k i j
  omega
theorem asum_le : ∀ (xs ys : List (List Int)) (n m : Nat) (b : Int) (i j : Nat), Sams xs n → Sams ys m → xs.length ≤ 5 → 0 ≤ b → i ≤ 60 → j ≤ 60 → Bnd b i j → asum b (i + 1) (j + 1) xs ys ≤ wg (fsum xs ys) b (i + 1) (j + 1)
  | [], ys, _, _, b, i, j, _, _, _, _, _, _, _ => by
    have : Fb (fsum [] ys) := fun i j => ⟨Int.le_refl 0, by show (0 : Int) ≤ 20000000; omega⟩
    exact wg_nn this _ _
  | _ :: _, [], _, _, b, i, j, _, _, _, _, _, _, _ => by
    have : ∀ x xs, Fb (fsum (x :: xs) []) := fun x xs i j => ⟨Int.le_refl 0, by show (0 : Int) ≤ 20000000; omega⟩
    exact wg_nn (this _ _) _ _
  | x :: xs, y :: ys, n, m, b, i, j, h, k, h5, hb, hi, hj, hB => by
    have hx : Sams xs n := fun z hz => h z (List.mem_cons_of_mem _ hz)
    have hy : Sams ys m := fun z hz => k z (List.mem_cons_of_mem _ hz)
    have ih := asum_le xs ys n m b i j hx hy (by simp at h5; omega) hb hi hj hB
    have f1 : Fb (cst x y) := fun i j => by
      have := cst_in (h x List.mem_cons_self).1 (k y List.mem_cons_self).1 i j
      omega
    have f2 := fsum_fb hx hy (by simp at h5; omega)
    have f3 := fsum_fb h k h5
    have hs := wg_small f3 hb (i := i) (j := j) (by omega) (by omega) hB
    have ha := wg_add (b := b) f1 f2 _ (i + 1) (j + 1) rfl hs
    have hw := wg_cst x y b _ (i + 1) (j + 1) rfl
    show wt x y b (i + 1) (j + 1) + asum b (i + 1) (j + 1) xs ys ≤ wg (fun i j => cst x y i j + fsum xs ys i j) b (i + 1) (j + 1)
    rw [hw]
    omega
theorem dg_fsum : ∀ (xs ys : List (List Int)) (n : Nat), Sams xs n → Sams ys n → xs.length = ys.length → n ≤ 60 → dg (fsum xs ys) n = esum xs ys
  | [], [], n, _, _, _, _ => by
    have : ∀ n, dg (fsum [] []) n = 0 := fun n => by induction n with
      | zero => rfl
      | succ n ih => show dg (fsum [] []) n + 0 = 0; rw [ih]; rfl
    exact this n
  | x :: xs, y :: ys, n, h, k, hl, h60 => by
    have ih := dg_fsum xs ys n (fun z hz => h z (List.mem_cons_of_mem _ hz)) (fun z hz => k z (List.mem_cons_of_mem _ hz)) (by simpa using hl) h60
    have hx := h x List.mem_cons_self
    have hy := k y List.mem_cons_self
    have hd := dg_cst hx.1 hy.1 (by rw [hx.2, hy.2]) (by omega) n (by omega)
    rw [List.take_of_length_le (by simp [df]; omega)] at hd
    show dg (fun i j => cst x y i j + fsum xs ys i j) n = su sq (df x y) + esum xs ys
    rw [dg_add, hd, ih]
  | [], _ :: _, _, _, _, hl, _ => by simp at hl
  | _ :: _, [], _, _, _, hl, _ => by simp at hl
theorem fsum_app : ∀ (xs ys us vs : List (List Int)), xs.length = ys.length → ∀ i j, fsum (xs ++ us) (ys ++ vs) i j = fsum xs ys i j + fsum us vs i j
  | [], [], us, vs, _, i, j => by simp [fsum]
  | x :: xs, y :: ys, us, vs, h, i, j => by
    have := fsum_app xs ys us vs (by simpa using h) i j
    show cst x y i j + fsum (xs ++ us) (ys ++ vs) i j = cst x y i j + fsum xs ys i j + fsum us vs i j
    omega
  | [], _ :: _, _, _, h, _, _ => by simp at h
  | _ :: _, [], _, _, h, _, _ => by simp at h
theorem asum_app (b : Int) (n m : Nat) : ∀ (xs ys us vs : List (List Int)), xs.length = ys.length → asum b n m (xs ++ us) (ys ++ vs) = asum b n m xs ys + asum b n m us vs
  | [], [], us, vs, _ => by simp [asum]
  | x :: xs, y :: ys, us, vs, h => by
    have := asum_app b n m xs ys us vs (by simpa using h)
    show wt x y b n m + asum b n m (xs ++ us) (ys ++ vs) = wt x y b n m + asum b n m xs ys + asum b n m us vs
    omega
  | [], _ :: _, _, _, h => by simp at h
  | _ :: _, [], _, _, h => by simp at h
theorem esum_app : ∀ (xs ys us vs : List (List Int)), xs.length = ys.length → esum (xs ++ us) (ys ++ vs) = esum xs ys + esum us vs
  | [], [], us, vs, _ => by simp [esum]
  | x :: xs, y :: ys, us, vs, h => by
    have := esum_app xs ys us vs (by simpa using h)
    show su sq (df x y) + esum (xs ++ us) (ys ++ vs) = su sq (df x y) + esum xs ys + esum us vs
    omega
  | [], _ :: _, _, _, h => by simp at h
  | _ :: _, [], _, _, h => by simp at h
end Go.Proofs.YtpbnabibnkohdaaGreatDoor.Wi
namespace Go.Proofs.YtpbnabibnkohdaaGreatDoor.Ch
open Go.ChangeShapes Go.WideShapes Go.RowKit Wo Sr Wi
set_option linter.unusedVariables false
theorem info_row : (Tryz.prog.info? 22).map (fun i => (i.zero, i.size, i.bytes)) = some (some (.slice none 0 0), 1, 24) := by kernel_rfl
/-- a slice of slices: its elements, as they lie -/
def Vc (w : World) (A : Option Addr) (n : Nat) (V : List Value) : Prop := V.length = n ∧ (∀ u ∈ V, u.oneCell' = true) ∧ (0 < n → ∃ ad : Addr, A = some ad ∧ ad.block < w.heap.size ∧ ∀ j, j < n → w.cell? (ad.add j) = some (V.getD j undef))
theorem Vc.bel {w w' : World} {A : Option Addr} {n : Nat} {V : List Value} (h : Vc w A n V) (hb : Bel w w') : Vc w' A n V :=
  ⟨h.1, h.2.1, fun hn => by
    obtain ⟨ad, e, hx, hc⟩ := h.2.2 hn
    exact ⟨ad, e, by have := hb.size; omega, fun j hj => hb.kp (hc j hj)⟩⟩
theorem vc_news {w : World} {ad : Addr} {m : Nat} {M : List Value} (hz : Vc w (some ad) m M) : ∀ j u, M[j]? = some u → w.cell? (ad.add j) = some u := by
  intro j u hu
  obtain ⟨hj, rfl⟩ := List.getElem?_eq_some_iff.1 hu
  obtain ⟨ad', e, _, hcc⟩ := hz.2.2 (by have := hz.1; omega)
  cases e
  have := hcc j (by have := hz.1; omega)
  rw [this, List.getD_eq_getElem?_getD, hu]
  rfl
theorem bel_grown {w a b : World} {row : Option Nat} (h : Bel w a) (hg : a.grownBy b row) (hr : ∀ q, row = some q → w.heap.size ≤ q) : Bel w b := Below.grown h hg h.size hr
theorem own_base {w : World} {base size n : Nat} {e : TypeId} {v : Value} {xs : List Value} (h : w.ownsRow base e size v n xs) : ∀ q, v.ownBlock = some q → base ≤ q := fun q e => (h.lt q e).1
theorem run_appc (w : World) (ty : TypeId) (base : Nat) (v : Value) (n : Nat) (L : List Value) (hown : w.ownsRow base 22 1 v n L) (ad : Addr) (m c : Nat) (M : List Value) (hz : Vc w (some ad) m M) (hn : n + m ≤ 1000000) (hbase : base ≤ w.heap.size) :
    ∃ v' w', (Builtin.append_ #[31, 31] ty #[v, .slice (some ad) m c]).run Tryz.prog w = .ok v' w' ∧ w'.ownsRow base 22 1 v' (n + m) (L ++ M) ∧ w.grownBy w' v.ownBlock ∧ (v'.ownBlock = v.ownBlock ∨ v'.ownBlock = some w.heap.size) := by
  obtain ⟨i0, hi0, hz0, hz1, hz2⟩ := info_parts info_row
  obtain ⟨v', w', hr, h2, h3, _, h5⟩ := run_append_own_at (P := Tryz.prog) w base 31 ty 22 i0 (.slice none 0 0) 1 24 Tryz.underlying31 hi0 hz0 hz1 hz2 (by rfl) (by omega) v n L hown ad m c M (by rw [hz.1]; omega) (vc_news hz) hz.2.1 (by unfold maxLen; omega) (by omega) hbase
  exact ⟨v', w', hr, h2, h3, h5⟩
def SomeRc (w : World) (e : Ending) (w' : World) : Prop := ∃ v, e = .returned v ∧ w'.ownsRow w.heap.size 22 1 v 0 [] ∧ Bel w w'
theorem under_int : Tryz.prog.underlying 3 = some (.int .i64) := by kernel_rfl
set_option maxHeartbeats 1000000 in
set_option maxRecDepth 100000 in
theorem growc (n : Nat) (n1 : 1 ≤ n) (n2 : n ≤ 3000) (w : World) : Calls Tryz.prog 77 #[.slice none 0 0, .int .i64 (n : Int)] w (SomeRc w) := by
  obtain ⟨i0, hi0, hz0, hz1, hz2⟩ := info_parts info_row
  have hr := Lib.run_append_nil_zeros (P := Tryz.prog) w 31 3 31 22 i0 (.slice none 0 0) .i64 .i64 Tryz.underlying31 under_int hi0 hz0 n (by omega) (by omega) (by omega) (by rw [hz2]; omega)
  have HR := Lib.hid hr
  have i1 : (n : Int) > 0 := by omega
  have i2 : (n : Int) ≤ 3000 := by omega
  have i3 : ¬ (n : Int) < 0 := by omega
  clear hr hi0 hz0 hz1 hz2
  go_enter Tryz.func77, Tryz.ntmps77
  go_wp2_with (at_builtin; refine Lib.wpList_append_run _ rfl _ _ 31 3 rfl _ _ rfl rfl _ _ HR.out ?_)
  go_ret
  have hle : n ≤ maxLen := by unfold maxLen; omega
  refine ⟨_, rfl, ?_, (Bel.rf.al _).drw⟩
  have h := World.ownsRow_made (base := w.heap.size) (e := 22) (size := 1) w (Builtin.zeroCells #[Value.slice none 0 0] n ++ Builtin.zeroCells #[Value.slice none 0 0] (grownCap w n 0 22 - n)) (grownCap w n 0 22) (Nat.le_refl _) (grownCap_le_maxLen _ _ _ _ hle) (by rw [Array.size_append, size_zeroCells, size_zeroCells]; have := grownCap_ge w n 0 22; simp; omega)
  exact own_bel h Bel.rf.drw
theorem list_appc (w : World) {ops : Array Oper} {rest : List Oper} {o : Oper} {a : Act} {Q : Exit → Act → World → Prop} (hgd : o.guard = none) (s x : Operand)
    (ho : o.op = .call { callee := .builtin .append, args := #[s, x], argTypes := #[31, 31] })
    (base : Nat) (v : Value) (n : Nat) (L : List Value) (hs : a.eval s = v) (hown : w.ownsRow base 22 1 v n L) (ad : Addr) (m c : Nat) (M : List Value) (hx : a.eval x = .slice (some ad) m c) (hz : Vc w (some ad) m M) (hn : n + m ≤ 1000000) (hbase : base ≤ w.heap.size)
    (h : ∀ v' w', w'.ownsRow base 22 1 v' (n + m) (L ++ M) → w.grownBy w' v.ownBlock → wpList Tryz.prog ops Q rest (a.put o.dst v') w') : wpList Tryz.prog ops Q (o :: rest) a w := by
  obtain ⟨v', w', hr, h2, h3, _⟩ := run_appc w o.type base v n L hown ad m c M hz hn hbase
  exact Lib.wpList_append_run w hgd s x _ _ ho _ _ hs hx v' w' hr (h v' w' h2 h3)
/-- a row of the call's own, as a slice of slices -/
theorem own_vc {w : World} {base n : Nat} {v : Value} {L : List Value} (h : w.ownsRow base 22 1 v n L) (hl : L.length = n) (h1 : ∀ u ∈ L, u.oneCell' = true) (hn : 0 < n) : ∃ g c, v = .slice (some ⟨g, 0, none⟩) n c ∧ Vc w (some ⟨g, 0, none⟩) n L ∧ base ≤ g := by
  obtain ⟨g, cap, rfl, hb, hlt⟩ := h.form hn
  refine ⟨g, cap, rfl, ⟨hl, h1, fun _ => ⟨_, rfl, hlt, fun j hj => ?_⟩⟩, hb⟩
  exact h.cells (g := g) rfl j _ (by rw [List.getElem?_eq_getElem (by omega : j < L.length), List.getD_eq_getElem?_getD, List.getElem?_eq_getElem (by omega : j < L.length)]; rfl)
def SomeVc (k : Nat) (V : List Value) (w : World) (e : Ending) (w' : World) : Prop := ∃ g c, e = .returned (.slice (some ⟨g, 0, none⟩) k c) ∧ Vc w' (some ⟨g, 0, none⟩) k V ∧ w.heap.size ≤ g ∧ Bel w w'
def tot (ns : Nat → Nat) : Nat → Nat
  | 0 => 0
  | t + 1 => tot ns t + ns t
def cat (Ls : Nat → List Value) : Nat → List Value
  | 0 => []
  | t + 1 => cat Ls t ++ Ls t
theorem tot_le (ns : Nat → Nat) : ∀ (q t : Nat), t ≤ q → tot ns t ≤ tot ns q
  | 0, t, h => by have : t = 0 := by omega
                  subst this; exact Nat.le_refl _
  | q + 1, t, h => by
    rcases Nat.lt_or_ge t (q + 1) with h1 | h1
    · have := tot_le ns q t (by omega)
      show _ ≤ tot ns q + ns q
      omega
    · have : t = q + 1 := by omega
      subst this; exact Nat.le_refl _
theorem cat_len {ns : Nat → Nat} {Ls : Nat → List Value} : ∀ q, (∀ j, j < q → (Ls j).length = ns j) → (cat Ls q).length = tot ns q
  | 0, _ => rfl
  | q + 1, h => by
    show (cat Ls q ++ Ls q).length = tot ns q + ns q
    rw [List.length_append, cat_len q (fun j hj => h j (by omega)), h q (by omega)]
theorem cat_one {Ls : Nat → List Value} : ∀ q, (∀ j, j < q → ∀ u ∈ Ls j, u.oneCell' = true) → ∀ u ∈ cat Ls q, u.oneCell' = true
  | 0, _, u, h => by cases h
  | q + 1, h, u, hu => by
    rcases List.mem_append.1 hu with h1 | h1
    · exact cat_one q (fun j hj => h j (by omega)) u h1
    · exact h q (by omega) u h1
set_option maxHeartbeats 4000000 in
theorem concat_any (g q : Nat) (As : Nat → Addr) (ns cs : Nat → Nat) (Ls : Nat → List Value) (hq : q ≤ 10) (hN1 : 1 ≤ tot ns q) (hN : tot ns q ≤ 3000) (w : World) (hgl : g < w.heap.size)
    (hc : ∀ j, j < q → w.cell? ⟨g, j, none⟩ = some (.slice (some (As j)) (ns j) (cs j))) (hz : ∀ j, j < q → Vc w (some (As j)) (ns j) (Ls j)) :
    Calls Tryz.prog 48 #[.slice (some ⟨g, 0, none⟩) q q] w (SomeVc (tot ns q) (cat Ls q) w) := by
  have HC := Lib.hid hc
  have HZ := Lib.hid hz
  have HT := Lib.hid (tot_le ns q)
  have hqi : (q : Int) ≤ 10 := by omega
  clear hc hz
  go_enter Tryz.func48, Tryz.ntmps48
  go_wp2
  go_loopw [3, 11] (fun s3 s11 wr => ∃ (t : Nat) (V : World), V = wr ∧ t ≤ q ∧ s3 = .int .i64 (tot ns t : Int) ∧ s11 = .int .i64 (t : Int) ∧ Bel w wr) (fun _ s11 _ => q - (intOf s11).toNat)
  case atStart => exact ⟨0, _, rfl, by omega, rfl, rfl, Bel.rf⟩
  case round =>
    obtain ⟨t, wr, hwr, ht, rfl, rfl, hb⟩ := hrel
    subst hwr
    have HB := Lib.hid hb
    rcases Nat.lt_or_ge t q with hlt | hge
    · have c1 := hb.kp (HC.out t hlt)
      have hn1 := HT.out t ht
      have hn2 := HT.out (t + 1) hlt
      have HTN : Hid (tot ns (t + 1) = tot ns t + ns t) := rfl
      have hn3 : tot ns t + ns t ≤ 3000 := by have : tot ns (t + 1) = tot ns t + ns t := rfl
                                              omega
      obtain ⟨a, ha⟩ : ∃ a, tot ns t = a := ⟨_, rfl⟩
      obtain ⟨b, hbb⟩ : ∃ a, ns t = a := ⟨_, rfl⟩
      rw [ha, hbb] at HTN hn3
      rw [hbb] at c1
      rw [ha]
      have ti : (t : Int) < (q : Int) := by omega
      have ab : (a : Int) + (b : Int) ≤ 3000 := by omega
      have ab0 : ¬ (a : Int) + (b : Int) < 0 := by omega
      clear hb hn1 hn2 hn3 ha hbb
      go_wp2
      go_roundw
      case rel => exact ⟨t + 1, _, rfl, by omega, by rw [HTN.out]; go_num, by go_num, by first | exact HB.out | exact HB.out.drw | exact HB.out.drwN _⟩
      case measure => simp [intOf]; omega
    · obtain rfl : t = q := by omega
      clear hb
      obtain ⟨N, hNN⟩ : ∃ N, tot ns t = N := ⟨_, rfl⟩
      rw [hNN] at hN hN1 ⊢
      have HNN := Lib.hid hNN
      have GR : Hid (∀ W, _) := fun W => growc N (by omega) (by omega) W
      clear hNN
      go_wp2_with (go_at_call 77; refine (GR.out _).mono ?_; rintro e w2 ⟨v, rfl, hown, hb2⟩)
      have hb12 := HB.out.tr hb2
      have HR0 : Hid (∃ (u : Nat) (V : World) (v' : Value), V = w2 ∧ v' = v ∧ u ≤ t ∧ (Value.int .i64 0) = .int .i64 (u : Int) ∧ V.ownsRow w.heap.size 22 1 v' (tot ns u) (cat Ls u) ∧ Bel w V) := by
        refine ⟨0, _, _, rfl, rfl, Nat.zero_le _, rfl, ?_, hb12⟩
        refine ⟨hown.1, ?_⟩
        rcases hown.2 with hn | ⟨q', cap, cur, rfl, hbb, rest⟩
        · exact .inl hn
        · exact .inr ⟨q', cap, cur, rfl, by have := HB.out.size; omega, rest⟩
      clear hown hb2 hb12
      go_loopw [6, 27] (fun s6 s27 wr => ∃ (u : Nat) (V : World) (v' : Value), V = wr ∧ v' = s6 ∧ u ≤ t ∧ s27 = .int .i64 (u : Int) ∧ V.ownsRow w.heap.size 22 1 v' (tot ns u) (cat Ls u) ∧ Bel w V) (fun _ s27 _ => t - (intOf s27).toNat)
      case atStart => exact HR0.out
      case round =>
        clear HR0
        obtain ⟨u, wr2, v', hwr, hv', hu, rfl, hown, hb⟩ := hrel
        subst hwr hv'
        rcases Nat.lt_or_ge u t with hlt | hge
        · have c1 := hb.kp (HC.out u hlt)
          have hn2 := HT.out (u + 1) hlt
          have HTN : Hid (tot ns (u + 1) = tot ns u + ns u ∧ cat Ls (u + 1) = cat Ls u ++ Ls u) := ⟨rfl, rfl⟩
          have hn3 : tot ns u + ns u ≤ 3000 := by have : tot ns (u + 1) = tot ns u + ns u := rfl
                                                  have := HNN.out
                                                  omega
          have HZU := Lib.hid ((HZ.out u hlt).bel hb)
          have HV := Lib.hid (And.intro hown hb)
          have hsz := hb.size
          have ui : (u : Int) < (t : Int) := by omega
          clear hown hb hn2
          go_wp2_with (at_builtin; refine list_appc _ rfl _ _ rfl w.heap.size v' (tot ns u) (cat Ls u) rfl HV.out.1 (As u) (ns u) (cs u) (Ls u) rfl HZU.out (by omega) hsz ?_; intro v2 w3 h2 h3)
          go_roundw
          case rel => exact ⟨u + 1, _, _, rfl, rfl, by omega, by go_num, by rw [HTN.out.1, HTN.out.2]; exact h2, bel_grown HV.out.2 h3 (own_base HV.out.1)⟩
          case measure => simp [intOf]; omega
        · obtain rfl : u = t := by omega
          rw [HNN.out] at hown
          obtain ⟨gg, c, rfl, hvs, hf⟩ := own_vc hown (by rw [cat_len u (fun j hj => (HZ.out j hj).1)]; exact HNN.out) (cat_one u (fun j hj => (HZ.out j hj).2.1)) (by omega)
          have HV := Lib.hid (And.intro hvs (And.intro hf hb))
          clear hown hvs hf hb
          go_wp2
          go_ret
          have hN' := HNN.out
          subst hN'
          exact ⟨gg, c, rfl, HV.out.1, HV.out.2.1, HV.out.2.2⟩
end Go.Proofs.YtpbnabibnkohdaaGreatDoor.Ch
namespace Go.Proofs.YtpbnabibnkohdaaGreatDoor.Ch
open Go.ChangeShapes Go.WideShapes Go.RowKit Wo Sr Wi
set_option linter.unusedVariables false
/-- a bundle: q channels of n samples each -/
def Bun (w : World) (g q n : Nat) (As : Nat → Option Addr) (cs : Nat → Nat) (Ls : Nat → List Int) : Prop :=
  g < w.heap.size ∧ ∀ j, j < q → w.cell? ⟨g, j, none⟩ = some (.slice (As j) n (cs j)) ∧ Zi w (As j) n (Ls j) ∧ Sam (Ls j)
theorem Bun.bel {w w' : World} {g q n : Nat} {As : Nat → Option Addr} {cs : Nat → Nat} {Ls : Nat → List Int} (h : Bun w g q n As cs Ls) (hb : Bel w w') : Bun w' g q n As cs Ls :=
  ⟨by have := hb.size; have := h.1; omega, fun j hj => ⟨hb.kp (h.2 j hj).1, (h.2 j hj).2.1.bel hb, (h.2 j hj).2.2⟩⟩
theorem Bun.le {w : World} {g q r n : Nat} {As : Nat → Option Addr} {cs : Nat → Nat} {Ls : Nat → List Int} (h : Bun w g q n As cs Ls) (hr : r ≤ q) : Bun w g r n As cs Ls := ⟨h.1, fun j hj => h.2 j (by omega)⟩
theorem even1_ok (b g : Nat) (q c n : Nat) (A A0 : Option Addr) (c1 c0 : Nat) (w : World) (hq : 1 ≤ q) (k0 : w.cell? ⟨b, 0, none⟩ = some (.slice (some ⟨g, 0, none⟩) q c)) (k1 : w.cell? ⟨g, 0, none⟩ = some (.slice A0 n c0)) :
    Calls Tryz.prog 79 #[.slice A n c1, .pointer (some ⟨b, 0, none⟩)] w fun e w' => e = .returned (.bool false) ∧ w = w' := by
  have i0 : (0 : Int) < (q : Int) := by omega
  go_enter Tryz.func79, Tryz.ntmps79
  go_wp2
  go_ret
  exact ⟨rfl, rfl⟩
set_option maxHeartbeats 2000000 in
theorem index_ok (b g : Nat) (q c n : Nat) (As : Nat → Option Addr) (cs : Nat → Nat) (Ls : Nat → List Int) (hq : 1 ≤ q) (hq4 : q ≤ 100) (w : World) (k0 : w.cell? ⟨b, 0, none⟩ = some (.slice (some ⟨g, 0, none⟩) q c)) (hB : Bun w g q n As cs Ls) :
    Calls Tryz.prog 107 #[.slice (some ⟨g, 0, none⟩) q c, .func (.func 79) #[] #[.pointer (some ⟨b, 0, none⟩)]] w fun e w' => e = .returned (.int .i64 (-1)) ∧ Bel w w' := by
  have HB := Lib.hid hB
  have HK := Lib.hid k0
  have i0 : (q : Int) ≤ 100 := by omega
  clear hB k0
  go_enter Tryz.func107, Tryz.ntmps107
  go_wp2
  go_loopw [8] (fun s8 wr => ∃ (t : Nat) (V : World), V = wr ∧ t ≤ q ∧ s8 = .int .i64 (t : Int) ∧ Bel w wr) (fun s8 _ => q - (intOf s8).toNat)
  case atStart => exact ⟨0, _, rfl, by omega, rfl, Bel.rf⟩
  case round =>
    obtain ⟨t, wr, hwr, ht, rfl, hb⟩ := hrel
    subst hwr
    have HBB := Lib.hid hb
    rcases Nat.lt_or_ge t q with hlt | hge
    · have c1 := hb.kp (HB.out.2 t hlt).1
      have E1 : Hid (∀ W, Bel w W → Calls Tryz.prog 79 #[.slice (As t) n (cs t), .pointer (some ⟨b, 0, none⟩)] W fun e w' => e = .returned (.bool false) ∧ W = w') := fun W hW =>
        even1_ok b g q c n (As t) (As 0) (cs t) (cs 0) W hq (hW.kp HK.out) (hW.kp (HB.out.2 0 (by omega)).1)
      have ti : (t : Int) < (q : Int) := by omega
      clear hb
      go_wp2_with (go_at_call 79; refine (E1.out _ (by repeat (first | exact HBB.out | (with_reducible refine Bel.drwN ?_ _) | (with_reducible refine Bel.drw ?_)))).mono ?_; rintro e w4 ⟨rfl, rfl⟩)
      go_roundw
      case rel => exact ⟨t + 1, _, rfl, by omega, by go_num, by first | exact HBB.out | exact HBB.out.drw | exact HBB.out.drwN _⟩
      case measure => simp [intOf]; omega
    · obtain rfl : t = q := by omega
      clear hb
      go_wp2
      go_ret
      exact ⟨rfl, HBB.out⟩
theorem contains_ok (b g : Nat) (q c n : Nat) (As : Nat → Option Addr) (cs : Nat → Nat) (Ls : Nat → List Int) (hq : 1 ≤ q) (hq4 : q ≤ 100) (w : World) (k0 : w.cell? ⟨b, 0, none⟩ = some (.slice (some ⟨g, 0, none⟩) q c)) (hB : Bun w g q n As cs Ls) :
    Calls Tryz.prog 78 #[.slice (some ⟨g, 0, none⟩) q c, .func (.func 79) #[] #[.pointer (some ⟨b, 0, none⟩)]] w fun e w' => e = .returned (.bool false) ∧ Bel w w' := by
  have HI := Lib.hid (index_ok b g q c n As cs Ls hq hq4 w k0 hB)
  clear k0 hB
  go_enter Tryz.func78, Tryz.ntmps78
  go_wp2_with fail
  go_at_call 107
  refine HI.out.mono ?_
  rintro e w1 ⟨rfl, hb⟩
  go_wp2
  go_ret
  exact ⟨rfl, hb⟩
theorem even_ok (g : Nat) (q c n : Nat) (As : Nat → Option Addr) (cs : Nat → Nat) (Ls : Nat → List Int) (hq : 1 ≤ q) (hq4 : q ≤ 100) (w : World) (hB : Bun w g q n As cs Ls) :
    Calls Tryz.prog 51 #[.slice (some ⟨g, 0, none⟩) q c] w fun e w' => e = .returned (.bool true) ∧ Bel w w' := by
  have HI : Hid (∀ W, Bel w W → ∀ b, W.cell? ⟨b, 0, none⟩ = some (.slice (some ⟨g, 0, none⟩) q c) → Calls Tryz.prog 78 #[.slice (some ⟨g, 0, none⟩) q c, .func (.func 79) #[] #[.pointer (some ⟨b, 0, none⟩)]] W fun e w' => e = .returned (.bool false) ∧ Bel W w') :=
    fun W hW b k0 => contains_ok b g q c n As cs Ls hq hq4 W k0 (hB.bel hW)
  clear hB
  go_enter Tryz.func51, Tryz.ntmps51
  go_wp2_with fail
  go_at_call 78
  refine (HI.out _ (Bel.rf.al _) _ ((Bk.nw _ _ _).cell 0)).mono ?_
  rintro e w1 ⟨rfl, hb⟩
  go_wp2
  go_ret
  exact ⟨rfl, (Bel.rf.al _).tr hb⟩
end Go.Proofs.YtpbnabibnkohdaaGreatDoor.Ch
namespace Go.Proofs.YtpbnabibnkohdaaGreatDoor.Ch
open Go.ChangeShapes Go.WideShapes Go.RowKit Wo Sr Wi
set_option linter.unusedVariables false
/-- the elements of a bundle -/
def els (q n : Nat) (As : Nat → Option Addr) (cs : Nat → Nat) : List Value := (List.range q).map fun j => .slice (As j) n (cs j)
theorem els_at {q n j : Nat} {As : Nat → Option Addr} {cs : Nat → Nat} (h : j < q) : (els q n As cs)[j]? = some (.slice (As j) n (cs j)) := by
  unfold els; rw [List.getElem?_map, List.getElem?_range h]; rfl
theorem els_len (q n : Nat) (As : Nat → Option Addr) (cs : Nat → Nat) : (els q n As cs).length = q := by unfold els; simp
theorem bun_vc {w : World} {g q n : Nat} {As : Nat → Option Addr} {cs : Nat → Nat} {Ls : Nat → List Int} (h : Bun w g q n As cs Ls) : Vc w (some ⟨g, 0, none⟩) q (els q n As cs) := by
  refine ⟨els_len .., fun u hu => ?_, fun _ => ⟨_, rfl, h.1, fun j hj => ?_⟩⟩
  · obtain ⟨j, _, rfl⟩ := List.mem_map.1 hu; rfl
  · have := (h.2 j hj).1
    rw [show (⟨g, 0, none⟩ : Addr).add j = ⟨g, j, none⟩ by unfold Addr.add; split <;> simp_all, this, List.getD_eq_getElem?_getD, els_at hj]; rfl
/-- all channels of two bundles: each is a list of samples -/
def AllC (w : World) (g k n m : Nat) : Prop := ∀ j, j < k → ∃ A l c L, w.cell? ⟨g, j, none⟩ = some (.slice A l c) ∧ Zi w A l L ∧ Sam L ∧ (l = n ∨ l = m)
theorem AllC.bel {w w' : World} {g k n m : Nat} (h : AllC w g k n m) (hb : Bel w w') : AllC w' g k n m := fun j hj => by
  obtain ⟨A, l, c, L, a, b, d, e⟩ := h j hj
  exact ⟨A, l, c, L, hb.kp a, b.bel hb, d, e⟩
theorem all_of {w : World} {g g1 g2 q n m : Nat} {As Bs : Nat → Option Addr} {cs ds : Nat → Nat} {Ls Ms : Nat → List Int} (h1 : Bun w g1 q n As cs Ls) (h2 : Bun w g2 q m Bs ds Ms)
    (h : Vc w (some ⟨g, 0, none⟩) (q + q) (els q n As cs ++ els q m Bs ds)) : AllC w g (q + q) n m := fun j hj => by
  obtain ⟨ad, e, _, hc⟩ := h.2.2 (by omega)
  cases e
  have hcj := hc j hj
  rw [show (⟨g, 0, none⟩ : Addr).add j = ⟨g, j, none⟩ by unfold Addr.add; split <;> simp_all, List.getD_eq_getElem?_getD] at hcj
  rcases Nat.lt_or_ge j q with hlt | hge
  · rw [List.getElem?_append_left (by rw [els_len]; exact hlt), els_at hlt] at hcj
    exact ⟨_, _, _, _, hcj, (h1.2 j hlt).2.1, (h1.2 j hlt).2.2, .inl rfl⟩
  · rw [List.getElem?_append_right (by rw [els_len]; exact hge), els_len, els_at (by omega)] at hcj
    exact ⟨_, _, _, _, hcj, (h2.2 (j - q) (by omega)).2.1, (h2.2 (j - q) (by omega)).2.2, .inr rfl⟩
theorem abs_le (k : Int) (b : Int) (h0 : -1000 ≤ k) (h1 : k ≤ 1000) (h2 : k ≤ b) (h3 : -k ≤ b) (w : World) : Calls Tryz.prog 47 #[.int .i64 k] w fun e w' => (∃ a : Int, e = .returned (.int .i64 a) ∧ 0 ≤ a ∧ a ≤ b ∧ a ≤ 1000) ∧ w = w' := by
  rcases Int.lt_or_le k 0 with h | h
  · go_enter Tryz.func47, Tryz.ntmps47
    go_wp2
    go_ret
    exact ⟨⟨_, rfl, by omega, by omega, by omega⟩, rfl⟩
  · go_enter Tryz.func47, Tryz.ntmps47
    go_wp2
    go_ret
    exact ⟨⟨_, rfl, by omega, by omega, by omega⟩, rfl⟩
set_option maxHeartbeats 16000000 in
set_option maxRecDepth 100000 in
theorem check_ok (g1 g2 q n m c1 c2 : Nat) (As Bs : Nat → Option Addr) (cs ds : Nat → Nat) (Ls Ms : Nat → List Int) (b : Int) (q1 : 1 ≤ q) (q4 : q ≤ 4) (n2 : 2 ≤ n) (n32 : n ≤ 32) (m2 : 2 ≤ m) (m32 : m ≤ 32)
    (hb1 : (n : Int) - (m : Int) ≤ b) (hb2 : (m : Int) - (n : Int) ≤ b) (w : World) (hX : Bun w g1 q n As cs Ls) (hY : Bun w g2 q m Bs ds Ms) :
    Calls Tryz.prog 29 #[.slice (some ⟨g1, 0, none⟩) q c1, .slice (some ⟨g2, 0, none⟩) q c2, .int .i64 b] w fun e w' => e = .returned (.int .i64 0) ∧ Bel w w' := by
  have HX := Lib.hid hX
  have HY := Lib.hid hY
  have i1 : (1 : Int) ≤ (q : Int) := by omega
  have i2 : (q : Int) ≤ 4 := by omega
  have i3 : ¬ (q : Int) < 1 := by omega
  have i4 : ¬ (4 : Int) < (q : Int) := by omega
  have HQ := Lib.hid (And.intro q1 (And.intro q4 (And.intro n2 (And.intro n32 (And.intro m2 (And.intro m32 (And.intro hb1 hb2)))))))
  clear hX hY hb1 hb2 n2 n32 m2 m32
  go_enter Tryz.func29, Tryz.ntmps29
  go_wp2
  have HN0 : Hid (Bk (w.alloc (.cells #[.slice (some ⟨g1, 0, none⟩) q c1, .slice (some ⟨g2, 0, none⟩) q c2] 31)) w.heap.size 31 #[.slice (some ⟨g1, 0, none⟩) q c1, .slice (some ⟨g2, 0, none⟩) q c2]) := Bk.nw _ _ _
  have HW0 : Hid (Bel w (w.alloc (.cells #[.slice (some ⟨g1, 0, none⟩) q c1, .slice (some ⟨g2, 0, none⟩) q c2] 31))) := Bel.rf.al _
  go_loopw [18] (fun s18 wr => ∃ (t : Nat) (V : World), V = wr ∧ t ≤ 2 ∧ s18 = .int .i64 (t : Int) ∧ Bel (w.alloc (.cells #[.slice (some ⟨g1, 0, none⟩) q c1, .slice (some ⟨g2, 0, none⟩) q c2] 31)) wr) (fun s18 _ => 2 - (intOf s18).toNat)
  case atStart => exact ⟨0, _, rfl, by omega, rfl, Bel.rf⟩
  case round =>
    obtain ⟨t, wr, hwr, ht, rfl, hb⟩ := hrel
    subst hwr
    have HB := Lib.hid hb
    rcases Nat.lt_or_ge t 2 with hlt | hge
    · have c0 := hb.kp (HN0.out.cell 0)
      have c1' := hb.kp (HN0.out.cell 1)
      clear hb
      rcases (by omega : t = 0 ∨ t = 1) with rfl | rfl
      · go_wp2
        go_roundw
        case rel => exact ⟨1, _, rfl, by omega, by go_num, by first | exact HB.out | exact HB.out.drw | exact HB.out.drwN _⟩
        case measure => simp [intOf]
      · go_wp2
        go_roundw
        case rel => exact ⟨2, _, rfl, by omega, by go_num, by first | exact HB.out | exact HB.out.drw | exact HB.out.drwN _⟩
        case measure => simp [intOf]
    · obtain rfl : t = 2 := by omega
      clear hb
      have HB2 : Hid (Bel w wr) := HW0.out.tr HB.out
      have HK : Hid (∀ W h, Bel w W → W.cell? ⟨h, 0, none⟩ = some (.slice (some ⟨g1, 0, none⟩) q c1) → W.cell? ⟨h, 1, none⟩ = some (.slice (some ⟨g2, 0, none⟩) q c2) → h < W.heap.size → Calls Tryz.prog 48 #[.slice (some ⟨h, 0, none⟩) 2 2] W (SomeVc (q + q) (els q n As cs ++ els q m Bs ds) W)) := by
        refine Lib.hid (fun W h hW k0 k1 hl => ?_)
        have := concat_any h 2 (fun j => if j = 0 then ⟨g1, 0, none⟩ else ⟨g2, 0, none⟩) (fun _ => q) (fun j => if j = 0 then c1 else c2) (fun j => if j = 0 then els q n As cs else els q m Bs ds) (by omega) (by show 1 ≤ 0 + q + q; omega) (by show 0 + q + q ≤ 3000; have := HQ.out.2.1; omega) W hl
          (fun j hj => by rcases (by omega : j = 0 ∨ j = 1) with rfl | rfl; exact k0; exact k1)
          (fun j hj => by rcases (by omega : j = 0 ∨ j = 1) with rfl | rfl; exact bun_vc (HX.out.bel hW); exact bun_vc (HY.out.bel hW))
        rw [show tot (fun _ => q) 2 = q + q by show 0 + q + q = q + q; omega] at this
        exact this
      clear HB HN0 HW0
      go_wp2_with fail
      go_at_call 48
      refine (HK.out _ _ (HB2.out.al _) ((Bk.nw _ _ _).cell 0) ((Bk.nw _ _ _).cell 1) (Bk.nw _ _ _).lt).mono ?_
      rintro e w2 ⟨g3, c3, rfl, hvc, hg3, hb⟩
      have HB3 : Hid (Bel w w2) := (HB2.out.al _).tr hb
      have HA := Lib.hid (all_of (HX.out.bel HB3.out) (HY.out.bel HB3.out) hvc)
      clear HB2 HK hvc hg3 hb
      have iq : (q : Int) + (q : Int) ≤ 8 := by omega
      have iq0 : ((q + q : Nat) : Int) = (q : Int) + (q : Int) := by omega
      go_wp2
      go_loopw [37] (fun s37 wr => ∃ (t : Nat) (V : World), V = wr ∧ t ≤ q + q ∧ s37 = .int .i64 (t : Int) ∧ Bel w2 wr) (fun s37 _ => q + q - (intOf s37).toNat)
      case atStart => exact ⟨0, _, rfl, by omega, rfl, Bel.rf⟩
      case round =>
        obtain ⟨t, wr, hwr, ht, rfl, hb⟩ := hrel
        subst hwr
        have HBB := Lib.hid hb
        rcases Nat.lt_or_ge t (q + q) with hlt | hge
        · obtain ⟨A, l, c, L, kc, hz, hs, hl⟩ := HA.out.bel hb t hlt
          have hqq := HQ.out
          have LE : Hid (∀ W, Calls Tryz.prog 49 #[.int .i64 (l : Int)] W fun e w' => e = .returned (.bool true) ∧ W = w') := Lib.hid (length_ok (l : Int) (by rcases hl with rfl | rfl <;> omega) (by rcases hl with rfl | rfl <;> omega))
          have ti : (t : Int) < (q : Int) + (q : Int) := by omega
          clear hb hz hs hl hqq
          go_wp2_with (go_at_call 49; refine (LE.out _).mono ?_; rintro e w4 ⟨rfl, rfl⟩)
          go_roundw
          case rel => exact ⟨t + 1, _, rfl, by omega, by go_num, by first | exact HBB.out | exact HBB.out.drw | exact HBB.out.drwN _⟩
          case measure => simp [intOf]; omega
        · obtain rfl : t = q + q := by omega
          clear hb
          go_wp2
          go_loopw [48] (fun s48 wx => ∃ (t : Nat) (V : World), V = wx ∧ t ≤ q + q ∧ s48 = .int .i64 (t : Int) ∧ Bel w2 wx) (fun s48 _ => q + q - (intOf s48).toNat)
          case atStart => exact ⟨0, _, rfl, by omega, rfl, (by first | exact HBB.out | exact HBB.out.drw | exact HBB.out.drwN _)⟩
          case round =>
            obtain ⟨t, wx, hwr, ht, rfl, hb⟩ := hrel
            subst hwr
            clear HBB
            have HBB := Lib.hid hb
            rcases Nat.lt_or_ge t (q + q) with hlt | hge
            · obtain ⟨A, l, c, L, kc, hz, hs, hl⟩ := HA.out.bel hb t hlt
              have hqq := HQ.out
              have SA : Hid (Calls Tryz.prog 50 #[.slice A l c] wx fun e w' => e = .returned (.bool true) ∧ Bel wx w') := Lib.hid (samples_ok A c l L (by rcases hl with rfl | rfl <;> omega) hs wx hz)
              have ti : (t : Int) < (q : Int) + (q : Int) := by omega
              clear hb hz hs hl hqq
              go_wp2_with (go_at_call 50; refine SA.out.mono ?_; rintro e w4 ⟨rfl, h4⟩)
              go_roundw
              case rel => exact ⟨_, _, _, _, _, _, _, _, _, _, ⟨t + 1, _, rfl, by omega, (by first | rfl | go_num), by first | exact HBB.out.tr h4 | exact (HBB.out.tr h4).drw | exact (HBB.out.tr h4).drwN _⟩, rfl⟩
              case measure => simp [intOf]; omega
            · obtain rfl : t = q + q := by omega
              have HB4 : Hid (Bel w wx) := HB3.out.tr hb
              clear hb HBB
              have k1 := ((HX.out.bel HB4.out).2 0 (by have := HQ.out.1; omega)).1
              have k2 := ((HY.out.bel HB4.out).2 0 (by have := HQ.out.1; omega)).1
              have KS : Hid (∀ W', Bel wx W' → ((fun w' => w'.cell? ⟨g1, 0, none⟩ = some (.slice (As 0) n (cs 0)) ∧ w'.cell? ⟨g2, 0, none⟩ = some (.slice (Bs 0) m (ds 0))) W')) := fun W' h => ⟨h.kp k1, h.kp k2⟩
              have E1 : Hid (∀ W, Bel wx W → Calls Tryz.prog 51 #[.slice (some ⟨g1, 0, none⟩) q c1] W fun e w' => e = .returned (.bool true) ∧ Bel W w') := fun W h => even_ok g1 q c1 n As cs Ls HQ.out.1 (by have := HQ.out.2.1; omega) W (HX.out.bel (HB4.out.tr h))
              have E2 : Hid (∀ W, Bel wx W → Calls Tryz.prog 51 #[.slice (some ⟨g2, 0, none⟩) q c2] W fun e w' => e = .returned (.bool true) ∧ Bel W w') := fun W h => even_ok g2 q c2 m Bs ds Ms HQ.out.1 (by have := HQ.out.2.1; omega) W (HY.out.bel (HB4.out.tr h))
              have hqq := HQ.out
              have AB : Hid (∀ W, Calls Tryz.prog 47 #[.int .i64 ((n : Int) - (m : Int))] W fun e w' => (∃ a : Int, e = .returned (.int .i64 a) ∧ 0 ≤ a ∧ a ≤ b ∧ a ≤ 1000) ∧ W = w') := Lib.hid (abs_le ((n : Int) - (m : Int)) b (by omega) (by omega) (by omega) (by omega))
              have j1 : (0 : Int) < (q : Int) := by omega
              have j1b : 0 < q := by omega
              have jw : IntKind.i64.wrap ((n : Int) - (m : Int)) = (n : Int) - (m : Int) := by rw [IntKind.wrap_i64]; omega
              have j2 : (n : Int) ≤ 32 := by omega
              have j3 : (m : Int) ≤ 32 := by omega
              have j4 : (2 : Int) ≤ (n : Int) := by omega
              have j5 : (2 : Int) ≤ (m : Int) := by omega
              clear hqq k1 k2
              go_wp2_with fail
              go_region_held3 (fun w' => w'.cell? ⟨g1, 0, none⟩ = some (.slice (As 0) n (cs 0)) ∧ w'.cell? ⟨g2, 0, none⟩ = some (.slice (Bs 0) m (ds 0)))
                (exact KS.out _ (by repeat (first | exact Bel.rf | (with_reducible refine Bel.drwN ?_ _) | (with_reducible refine Bel.drw ?_) | (refine Bel.tr ?_ (by assumption)))))
                (first
                  | (go_at_call 51; first
                    | ((with_reducible refine (E1.out _ (by repeat (first | exact Bel.rf | (with_reducible refine Bel.drwN ?_ _) | (with_reducible refine Bel.drw ?_) | refine Bel.tr ?_ (by assumption)))).mono ?_); rintro r s4 ⟨rfl, h4⟩)
                    | ((with_reducible refine (E2.out _ (by repeat (first | exact Bel.rf | (with_reducible refine Bel.drwN ?_ _) | (with_reducible refine Bel.drw ?_) | refine Bel.tr ?_ (by assumption)))).mono ?_); rintro r s5 ⟨rfl, h5⟩))
                  | (go_at_call 47; refine (AB.out _).mono ?_; rintro r s6 ⟨⟨a, rfl, a0, a1, a2⟩, rfl⟩))
              all_goals
                go_wp2
                go_ret
                exact ⟨rfl, HB4.out.tr (by repeat (first | exact Bel.rf | (with_reducible refine Bel.drwN ?_ _) | (with_reducible refine Bel.drw ?_) | refine Bel.tr ?_ (by assumption)))⟩
end Go.Proofs.YtpbnabibnkohdaaGreatDoor.Ch
namespace Go.Proofs.YtpbnabibnkohdaaGreatDoor.Ch
open Go.ChangeShapes Go.WideShapes Go.RowKit Wo Sr Wi Nr
set_option linter.unusedVariables false
theorem square_ok (d : Int) (h0 : -2000 ≤ d) (h1 : d ≤ 2000) (w : World) : Calls Tryz.prog 26 #[.int .i64 d] w fun e w' => e = .returned (.int .i64 (d * d)) ∧ w = w' := by
  have hb := sq_bd (B := 2000) h0 h1
  have w1 : wrap64 (d * d) = d * d := IntWalk.wrap64_in _ (by omega)
  go_enter Tryz.func26, Tryz.ntmps26
  go_wp2
  go_ret
  exact ⟨rfl, rfl⟩
theorem mul64_one (k : Nat) (hk : k ≤ 1000) (w : World) : Calls Tryz.prog 127 #[.int .u64 1, .int .u64 (k : Int)] w fun e w' => e = .returned (.tuple #[.int .u64 0, .int .u64 (k : Int)]) ∧ w = w' := by
  have a1 : bits .and .u64 1 4294967295 = 1 := by decide
  have a2 : bits .and .u64 (k : Int) 4294967295 = (k : Int) := by
    have h := bits_and_u64_nat k 4294967295 (by omega) (by omega)
    have e : k &&& 4294967295 = k % 4294967296 := Nat.and_two_pow_sub_one_eq_mod k 32
    rw [e, Nat.mod_eq_of_lt (by omega)] at h
    exact h
  have a3 : bits .and .u64 0 4294967295 = 0 := by decide
  have ki : (k : Int) ≤ 1000 := by omega
  have w1 : (k : Int) / 4294967296 = 0 := by omega
  have w2 : (k : Int) % 18446744073709551616 = (k : Int) := by omega
  have w3 : IntKind.u64.wrap (k : Int) = (k : Int) := by rw [IntKind.wrap_u64]; omega
  have w4 : IntKind.u64.wrap 0 = 0 := by decide
  clear ki
  go_enter Tryz.func127, Tryz.ntmps127
  go_wp2
  go_ret2
  exact ⟨rfl, rfl⟩
theorem mul_one (k : Nat) (hk : k ≤ 1000) (w : World) : Calls Tryz.prog 99 #[.int .u64 1, .int .u64 (k : Int)] w fun e w' => e = .returned (.tuple #[.int .u64 0, .int .u64 (k : Int)]) ∧ w = w' := by
  go_enter Tryz.func99, Tryz.ntmps99
  go_wp2_with (go_at_call 127; refine (mul64_one k hk _).mono ?_; rintro e w2 ⟨rfl, rfl⟩)
  go_ret2
  exact ⟨rfl, rfl⟩
theorem splice_zs (Z Y : List Int) (n : Nat) : splice (zs Z) n (zs Y) = zs (splice Z n Y) := by
  simp [splice, zs]
theorem splice_rep {Z : List Int} {x : Int} {k n q : Nat} (hl : Z.length = k) (hq : n + q ≤ k) (hz : ∀ i, i < n → Z.getD i 0 = x) : (splice Z n (List.replicate q x)).length = k ∧ ∀ i, i < n + q → (splice Z n (List.replicate q x)).getD i 0 = x := by
  refine ⟨by rw [length_splice _ _ _ (by simp; omega)]; exact hl, fun i hi => ?_⟩
  unfold splice
  rw [List.getD_eq_getElem?_getD]
  rcases Nat.lt_or_ge i n with h | h
  · rw [List.getElem?_append_left (by simp; omega), List.getElem?_take_of_lt h, ← List.getD_eq_getElem?_getD]
    exact hz i h
  · rw [List.getElem?_append_right (by simp; omega), List.getElem?_append_left (by simp; omega)]
    have e : i - min n Z.length < q := by omega
    simp [e]
theorem all_rep {Z : List Int} {x : Int} {k : Nat} (hl : Z.length = k) (hz : ∀ i, i < k → Z.getD i 0 = x) : Z = List.replicate k x := by
  apply List.ext_getElem?
  intro i
  rcases Nat.lt_or_ge i k with h | h
  · have := hz i h
    rw [List.getD_eq_getElem?_getD, List.getElem?_eq_getElem (by omega)] at this
    rw [List.getElem?_eq_getElem (by omega), List.getElem?_replicate, if_pos h]
    exact congrArg some this
  · rw [List.getElem?_eq_none (by omega), List.getElem?_eq_none (by simpa using h)]
theorem size_int : (Tryz.prog.info? 3).map (·.size) = some 1 := by kernel_rfl
set_option maxHeartbeats 4000000 in
set_option maxRecDepth 100000 in
theorem repeat_ok (g : Nat) (x : Int) (k : Nat) (k1 : 1 ≤ k) (k2 : k ≤ 100) (w : World) (hc : w.cell? ⟨g, 0, none⟩ = some (.int .i64 x)) :
    Calls Tryz.prog 66 #[.slice (some ⟨g, 0, none⟩) 1 1, .int .i64 (k : Int)] w fun e w' => e = .returned (.slice (some ⟨w.heap.size, 0, none⟩) k k) ∧ Bk w' w.heap.size 3 (zs (List.replicate k x)).toArray ∧ Bel w w' := by
  have ki1 : 1 ≤ (k : Int) := by omega
  have ki2 : (k : Int) ≤ 100 := by omega
  have wk : IntKind.u64.wrap (k : Int) = (k : Int) := by rw [IntKind.wrap_u64]; omega
  have wk2 : wrap64 (k : Int) = (k : Int) := IntWalk.wrap64_in _ (by omega)
  have wk3 : IntKind.i64.wrap (k : Int) = (k : Int) := IntWalk.i64_in _ (by omega)
  obtain ⟨i0, hi0, hz0, hz1, hz2⟩ := info_parts info_int
  have HI := Lib.hid (And.intro hi0 (And.intro hz0 (And.intro hz1 hz2)))
  have HC := Lib.hid hc
  have hw := World.block_lt_of_cell? w _ hc
  have HNW := Lib.hid (Bk.nw w 3 (zs (List.replicate k 0)).toArray)
  have HCA : Hid ((w.alloc (.cells (zs (List.replicate k 0)).toArray 3)).cell? ⟨g, 0, none⟩ = some (.int .i64 x)) := kp_al hc _
  have HMIN : Hid ((zs [x]).length = Nat.min 1 k) := by show 1 = min 1 k; omega
  have HFT : Hid (0 + (zs [x]).length ≤ (zs (List.replicate k 0)).length) := by show 0 + 1 ≤ _; rw [zs_len, List.length_replicate]; omega
  have HSR0 : Hid (∀ j v, (zs [x])[j]? = some v → (w.alloc (.cells (zs (List.replicate k 0)).toArray 3)).cell? ((⟨g, 0, none⟩ : Addr).add j) = some v) := fun j v hv => by
    rcases j with _ | j
    · injection hv with hv; rw [← hv]; exact HCA.out
    · simp [zs] at hv
  clear hi0 hz0 hz1 hz2 hc hw
  go_enter Tryz.func66, Tryz.ntmps66
  go_wp2_with (first
    | (go_at_call 99; refine (mul_one k (by omega) _).mono ?_; rintro e w2 ⟨rfl, rfl⟩)
    | (refine wpList_make_any _ rfl (.tmp 29) (.tmp 29) 22 rfl 3 i0 (.int .i64 0) 1 Tryz.underlying22 HI.out.1 HI.out.2.1 HI.out.2.2.1 .i64 .i64 _ _ k k rfl rfl rfl rfl (by omega) (by rw [HI.out.2.2.2]; omega) (by omega) ?_; rw [made_i64])
    | (refine wpList_copy_splice rfl (.tmp 31) (.tmp 32) 22 22 rfl 3 Tryz.underlying22 size_int (some ⟨w.heap.size, 0, none⟩) (some ⟨g, 0, none⟩) k k 1 1 rfl rfl w.heap.size 0 (zs (List.replicate k 0)) 3 HNW.out (zs [x]) HMIN.out (fun _ => ⟨rfl, _, rfl, HSR0.out⟩) HFT.out (zs_one _) w.heap.size w (Bel.rf.al _) (Nat.le_refl _) ?_; intro w2 hg2 hb2))
  go_loopw [8] (fun s8 wr => ∃ (t : Nat) (V : World) (Z : List Int), V = wr ∧ 1 ≤ t ∧ t ≤ k ∧ s8 = .int .i64 (t : Int) ∧ Z.length = k ∧ (∀ i, i < t → Z.getD i 0 = x) ∧ Bk wr w.heap.size 3 (zs Z).toArray ∧ Bel w wr) (fun s8 _ => k - (intOf s8).toNat)
  case atStart =>
    rw [splice_zs] at hg2
    have h := splice_rep (Z := List.replicate k 0) (x := x) (k := k) (n := 0) (q := 1) (by simp) (by omega) (fun i hi => by omega)
    exact ⟨1, _, _, rfl, by omega, by omega, rfl, h.1, h.2, hg2.out, hb2⟩
  case round =>
    obtain ⟨t, wr, Z, hwr, ht1, htk, rfl, hlz, hzt, hk, hb⟩ := hrel
    subst hwr
    clear hg2 hb2 wk wk2 wk3
    have HK := Lib.hid hk
    have HB := Lib.hid hb
    have HZT := Lib.hid hzt
    have HLZ := Lib.hid hlz
    have hlt := hk.lt
    clear hk hb hzt hlz
    rcases Nat.lt_or_ge t k with h | h
    · obtain ⟨y, hy⟩ : ∃ y, Nat.min t (k - t) = y := ⟨_, rfl⟩
      have hy1 : y ≤ t ∧ y ≤ k - t ∧ 1 ≤ y := by rw [← hy]; show min t (k - t) ≤ t ∧ min t (k - t) ≤ k - t ∧ 1 ≤ min t (k - t); omega
      have hkt : ¬ k = t := by omega
      have hti : (t : Int) < (k : Int) := by omega
      have hti2 : (t : Int) ≤ (k : Int) := by omega
      have htl : t ≤ k := htk
      have HSR := Lib.hid (splice_rep HLZ.out (x := x) (n := t) (q := y) (by omega) HZT.out)
      have HY := Lib.hid (And.intro hy hy1)
      obtain ⟨z, hz⟩ : ∃ z, t + y = z := ⟨_, rfl⟩
      have hzi : (t : Int) + (y : Int) = (z : Int) := by omega
      have hzk : z ≤ k ∧ t < z := by omega
      have HZZ := Lib.hid (And.intro hz hzk)
      have HL1 : Hid ((zs (List.replicate y x)).length = Nat.min t (k - t)) := by show _ = _; rw [zs_len, List.length_replicate]; exact HY.out.1.symm
      have HL2 : Hid (t + (zs (List.replicate y x)).length ≤ (zs Z).length) := by show _ ≤ _; rw [zs_len, zs_len, List.length_replicate, HLZ.out]; have := HY.out; omega
      have hzl : (zs (List.replicate y x)).length = y := by rw [zs_len, List.length_replicate]
      have zb : -9223372036854775808 ≤ (z : Int) ∧ (z : Int) ≤ 9223372036854775807 := by omega
      have wy : wrap64 (z : Int) = (z : Int) := IntWalk.wrap64_in _ zb
      have wy3 : IntKind.i64.wrap (z : Int) = (z : Int) := IntWalk.i64_in _ zb
      clear hz hzk zb
      clear hy hy1
      have HSRC : Hid (∀ W, Bk W w.heap.size 3 (zs Z).toArray → ∀ j v, (zs (List.replicate y x))[j]? = some v → W.cell? ((⟨w.heap.size, 0, none⟩ : Addr).add j) = some v) := fun W hW j v hv => by
        have hj : j < y := by
          rcases Nat.lt_or_ge j y with h | h
          · exact h
          · rw [List.getElem?_eq_none (by simpa [zs] using h)] at hv; cases hv
        have hz := (zi_bk hW k HLZ.out).at j (by have := HY.out; omega)
        rw [HZT.out j (by have := HY.out; omega)] at hz
        simp [zs, hj] at hv
        rw [add_row, ← hv]
        exact hz
      go_wp2
      go_region_law (refine step_copy_splice rfl (.tmp 41) (.tmp 44) 22 22 rfl 3 Tryz.underlying22 size_int (some ⟨w.heap.size, t, none⟩) (some ⟨w.heap.size, 0, none⟩) (k - t) (k - t) t k (by simp [Act.eval, Act.put]) (by simp [Act.eval, Act.put]) w.heap.size t (zs Z) 3 (by first | exact HK.out | exact HK.out.drwN _ | exact HK.out.drw) (zs (List.replicate y x)) HL1.out (fun _ => ⟨rfl, _, rfl, by first | exact HSRC.out _ HK.out | exact HSRC.out _ (HK.out.drwN _) | exact HSRC.out _ HK.out.drw⟩) HL2.out (zs_one _) w.heap.size w (by first | exact HB.out | exact HB.out.drwN _ | exact HB.out.drw) (Nat.le_refl _) ?_; intro w4 hg4 hb4)
      all_goals
        rw [splice_zs] at hg4
        (try simp only [hzl, hzi, wy3])
        (try go_simp)
        go_roundw
        case rel =>
          refine ⟨_, _, _, _, _, _, _, _, _, _, _, _, _, _, ?_, rfl⟩
          exact ⟨z, _, _, rfl, by have := HZZ.out; omega, HZZ.out.2.1, by first | rfl | go_num, HSR.out.1, by rw [← HZZ.out.1]; exact HSR.out.2, hg4.out, hb4⟩
        case measure => (have := HZZ.out; simp [intOf]; omega)
    · obtain rfl : t = k := by omega
      have e := all_rep HLZ.out HZT.out
      have HK2 := HK
      rw [e] at HK2
      clear e
      go_wp2
      go_ret
      exact ⟨rfl, HK2.out, HB.out⟩
/-- what a search is -/
def sea (n m : Nat) (b : Int) (F : Value) : Value := .agg #[.int .i64 (n : Int), .int .i64 (m : Int), .int .i64 b, F]
set_option maxRecDepth 100000 in
theorem border_ok (n m : Nat) (b : Int) (K : FuncId) (caps : Array Value) (hm : m ≤ 64) (w : World) :
    Calls Tryz.prog 46 #[.agg #[.int .i64 (n : Int), .int .i64 (m : Int), .int .i64 b, .func (.func K) #[] caps]] w fun e w' => ∃ a, e = .returned (.slice (some ⟨a, 0, none⟩) (m + 1) (m + 1)) ∧ w.heap.size ≤ a ∧ a < w'.heap.size ∧ Bk w' a 3 (zs (List.replicate (m + 1) far)).toArray ∧ Bel w w' := by
  have mi : (m : Int) ≤ 64 := by omega
  obtain ⟨k, hk⟩ : ∃ k, m + 1 = k := ⟨_, rfl⟩
  have hki : (m : Int) + 1 = (k : Int) := by omega
  have kb : 1 ≤ k ∧ k ≤ 100 := by omega
  have zb : -9223372036854775808 ≤ (k : Int) ∧ (k : Int) ≤ 9223372036854775807 := by omega
  have wk : wrap64 (k : Int) = (k : Int) := IntWalk.wrap64_in _ zb
  have HR : Hid (∀ (W : World) (g : Nat), W.cell? ⟨g, 0, none⟩ = some (.int .i64 far) → _) := fun (W : World) (g : Nat) (h : W.cell? ⟨g, 0, none⟩ = some (.int .i64 far)) => repeat_ok g far k kb.1 kb.2 W h
  clear zb kb
  rw [hk]
  clear hk
  go_enter Tryz.func46, Tryz.ntmps46
  go_wp2_with fail
  go_at_call 66
  refine (HR.out _ _ ((Bk.nq _ _ _ (by simp)).cell 0)).mono ?_
  rintro e w2 ⟨rfl, hk2, hb2⟩
  simp only [World.size_alloc] at hk2
  have HK := Lib.hid hk2
  have HB : Hid (Bel w w2) := ((Bel.rf.al _).al _).tr hb2
  clear hk2 hb2
  go_wp2
  go_ret
  exact ⟨w.heap.size + 1 + 1, rfl, by omega, HK.out.lt, HK.out, HB.out⟩
theorem band_ok (g1 g2 q n m c1 c2 : Nat) (As Bs : Nat → Option Addr) (cs ds : Nat → Nat) (Ls Ms : Nat → List Int) (b : Int) (q1 : 1 ≤ q) (q4 : q ≤ 4) (n2 : 2 ≤ n) (n32 : n ≤ 32) (m2 : 2 ≤ m) (m32 : m ≤ 32) (b0 : 0 ≤ b) (b32 : b ≤ 32)
    (hb1 : (n : Int) - (m : Int) ≤ b) (hb2 : (m : Int) - (n : Int) ≤ b) (w : World) (hX : Bun w g1 q n As cs Ls) (hY : Bun w g2 q m Bs ds Ms) :
    Calls Tryz.prog 24 #[.slice (some ⟨g1, 0, none⟩) q c1, .slice (some ⟨g2, 0, none⟩) q c2, .int .i64 b] w fun e w' => e = .returned (.int .i64 0) ∧ Bel w w' := by
  have HC := Lib.hid (check_ok g1 g2 q n m c1 c2 As Bs cs ds Ls Ms b q1 q4 n2 n32 m2 m32 hb1 hb2 w hX hY)
  clear hX hY
  go_enter Tryz.func24, Tryz.ntmps24
  go_wp2_with fail
  go_at_call 29
  refine HC.out.mono ?_
  rintro e w1 ⟨rfl, hb⟩
  go_wp2
  go_ret
  exact ⟨rfl, hb⟩
end Go.Proofs.YtpbnabibnkohdaaGreatDoor.Ch
namespace Go.Proofs.YtpbnabibnkohdaaGreatDoor.Ch
open Go.ChangeShapes Go.WideShapes Go.RowKit Wo Sr Wi Nr
set_option linter.unusedVariables false
/-- a row of the table -/
def Rg (f : Nat → Nat → Int) (b : Int) (i m : Nat) (Z : List Int) : Prop := Z.length = m + 1 ∧ ∀ t, t ≤ m → Z.getD t 0 = wg f b i t
theorem mn3_if (a b c : Int) : mn3 a b c = (if c < if b < a then b else a then c else if b < a then b else a) := by
  unfold mn3 mn
  (repeat' split) <;> omega
theorem set_at (A : List Int) (k i : Nat) (y : Int) : (A.set k y).getD i 0 = if i = k ∧ i < A.length then y else A.getD i 0 := by
  rw [List.getD_eq_getElem?_getD, List.getD_eq_getElem?_getD, List.getElem?_set]
  rcases Classical.em (k = i) with rfl | h
  · rcases Nat.lt_or_ge k A.length with h2 | h2
    · simp [h2]
    · simp [Nat.not_lt.2 h2]
  · rw [if_neg h, if_neg (by omega)]
theorem bk_sz {w : World} {q m : Nat} {Z : List Int} (h : Bk w q 3 (zs Z).toArray) (hl : Z.length = m + 1) {t : Nat} (ht : t ≤ m) : w.cell? ⟨q, t, none⟩ = some (.int .i64 (Z.getD t 0)) := by
  rw [h.cell]
  simpa using zs_at (show t < Z.length by omega)
theorem bk_set {w : World} {q : Nat} {Z : List Int} (h : Bk w q 3 (zs Z).toArray) (t : Nat) (y : Int) : Bk (w.setCell ⟨q, t, none⟩ (.int .i64 y)) q 3 (zs (Z.set t y)).toArray := by
  have := h.st t (.int .i64 y)
  rwa [show ((zs Z).toArray.setIfInBounds t (.int .i64 y)) = (zs (Z.set t y)).toArray by simp [zs, List.map_set]] at this
theorem kp_st {W : World} {b i j : Nat} {v : Value} (h : W.cell? ⟨b, i, none⟩ = some v) (hne : i ≠ j) (u : Value) : (W.setCell ⟨b, j, none⟩ u).cell? ⟨b, i, none⟩ = some v :=
  (World.cell?_setCell_other _ _ _ _ (fun e => by have := congrArg Addr.off e; simp at this; omega)).trans h
theorem kp_fb {W : World} {a b i j : Nat} {v : Value} (h : W.cell? ⟨a, i, none⟩ = some v) (hne : a ≠ b) (u : Value) : (W.setCell ⟨b, j, none⟩ u).cell? ⟨a, i, none⟩ = some v :=
  (World.cell?_setCell_other _ _ _ _ (fun e => by have := congrArg Addr.block e; simp at this; omega)).trans h
/-- the absolute value -/
def ab (x : Int) : Int := if x < 0 then -x else x
theorem abs_eq (k : Int) (h0 : -1000 ≤ k) (h1 : k ≤ 1000) (w : World) : Calls Tryz.prog 47 #[.int .i64 k] w fun e w' => e = .returned (.int .i64 (ab k)) ∧ w' = w := by
  unfold ab
  rcases Int.lt_or_le k 0 with h | h
  · rw [if_pos h]
    go_enter Tryz.func47, Tryz.ntmps47
    go_wp2
    go_ret
    exact ⟨rfl, rfl⟩
  · rw [if_neg (by omega)]
    go_enter Tryz.func47, Tryz.ntmps47
    go_wp2
    go_ret
    exact ⟨rfl, rfl⟩
/-- the tables of a search at work: the last row, the row, the search's own fields -/
def Tab (w W : World) (p q m : Nat) (Zp Zq : List Int) (F : Array Value) : Prop :=
  p ≠ q ∧ w.heap.size < p ∧ w.heap.size < q ∧ Bk W p 3 (zs Zp).toArray ∧ Bk W q 3 (zs Zq).toArray ∧ Zq.length = m + 1 ∧ Bk W w.heap.size 56 F ∧ Bel w W
theorem Tab.bel {w W V : World} {p q m : Nat} {Zp Zq : List Int} {F : Array Value} (h : Tab w W p q m Zp Zq F) (hb : Bel W V) : Tab w V p q m Zp Zq F :=
  ⟨h.1, h.2.1, h.2.2.1, h.2.2.2.1.bel hb, h.2.2.2.2.1.bel hb, h.2.2.2.2.2.1, h.2.2.2.2.2.2.1.bel hb, h.2.2.2.2.2.2.2.tr hb⟩
theorem Tab.st {w W : World} {p q m : Nat} {Zp Zq : List Int} {F : Array Value} (h : Tab w W p q m Zp Zq F) (t : Nat) (y : Int) : Tab w (W.setCell ⟨q, t, none⟩ (.int .i64 y)) p q m Zp (Zq.set t y) F :=
  ⟨h.1, h.2.1, h.2.2.1, h.2.2.2.1.far (by show p ≠ q; exact h.1) _, bk_set h.2.2.2.2.1 t y, by rw [List.length_set]; exact h.2.2.2.2.2.1, h.2.2.2.2.2.2.1.far (by show w.heap.size ≠ q; have := h.2.2.1; omega) _, h.2.2.2.2.2.2.2.st (by show _ ≤ q; have := h.2.2.1; omega) _⟩
theorem Tab.sw {w W : World} {p q m : Nat} {Zp Zq : List Int} {F : Array Value} (h : Tab w W p q m Zp Zq F) (hl : Zp.length = m + 1) : Tab w W q p m Zq Zp F :=
  ⟨fun e => h.1 e.symm, h.2.2.1, h.2.1, h.2.2.2.2.1, h.2.2.2.1, hl, h.2.2.2.2.2.2.1, h.2.2.2.2.2.2.2⟩
set_option maxHeartbeats 16000000 in
set_option maxRecDepth 100000 in
theorem least_apart (n m : Nat) (b : Int) (f : Nat → Nat → Int) (n1 : 1 ≤ n) (n2 : n ≤ 33) (m1 : 1 ≤ m) (m2 : m ≤ 33) (b0 : 0 ≤ b) (b32 : b ≤ 32) (hf : Fb f) (z1 z2 z3 : Value) (w : World)
    (HC : ∀ W, Bel w W → ∀ i j : Nat, i < n → j < m → Calls Tryz.prog 25 #[.int .i64 (i : Int), .int .i64 (j : Int), z1, z2, z3] W fun e W' => e = .returned (.int .i64 (f i j)) ∧ Bel W W') :
    Calls Tryz.prog 27 #[.agg #[.int .i64 (n : Int), .int .i64 (m : Int), .int .i64 b, .func (.func 25) #[] #[z1, z2, z3]]] w fun e w' => e = .returned (.int .i64 (wg f b n m)) ∧ Bel w w' := by
  have HCC := Lib.hid HC
  have i1 : 1 ≤ (n : Int) := by omega
  have i2 : (n : Int) ≤ 33 := by omega
  have i3 : 1 ≤ (m : Int) := by omega
  have i4 : (m : Int) ≤ 33 := by omega
  have HE : Hid (∀ i j, i ≤ 64 → j ≤ 64 → 0 ≤ wg f b i j ∧ wg f b i j ≤ 4611686018427387904) := fun i j hi hj => ⟨wg_nn hf i j, wg_hi hf b0 i j hi hj⟩
  have HFB := Lib.hid hf
  have HBO : Hid (∀ W, _) := fun W => border_ok n m b 25 #[z1, z2, z3] (by omega) W
  clear HC hf
  go_enter Tryz.func27, Tryz.ntmps27
  go_upto_region 1 with fail
  have HW0 : Hid (Bk (w.alloc (.cells #[.int .i64 (n : Int), .int .i64 (m : Int), .int .i64 b, .func (.func 25) #[] #[z1, z2, z3]] 56)) w.heap.size 56 #[.int .i64 (n : Int), .int .i64 (m : Int), .int .i64 b, .func (.func 25) #[] #[z1, z2, z3]]) := Bk.nw _ _ _
  have HWB : Hid (Bel w (w.alloc (.cells #[.int .i64 (n : Int), .int .i64 (m : Int), .int .i64 b, .func (.func 25) #[] #[z1, z2, z3]] 56))) := Bel.rf.al _
  go_cut [3, 4] (fun s3 s4 wx => ∃ (p q : Nat) (W : World), W = wx ∧ s3 = .slice (some ⟨p, 0, none⟩) (m + 1) (m + 1) ∧ s4 = .slice (some ⟨q, 0, none⟩) (m + 1) (m + 1) ∧ Tab w wx p q m (List.replicate (m + 1) far) (List.replicate (m + 1) far) #[.int .i64 (n : Int), .int .i64 (m : Int), .int .i64 b, .func (.func 25) #[] #[z1, z2, z3]])
  case first =>
    have k0 := HW0.out.cell 0
    have k1 := HW0.out.cell 1
    have k2 := HW0.out.cell 2
    have k3 := HW0.out.cell 3
    have KS : Hid (∀ W', Bel (w.alloc (.cells #[.int .i64 (n : Int), .int .i64 (m : Int), .int .i64 b, .func (.func 25) #[] #[z1, z2, z3]] 56)) W' → ((fun w' => w'.cell? ⟨w.heap.size, 0, none⟩ = some (.int .i64 (n : Int)) ∧ w'.cell? ⟨w.heap.size, 1, none⟩ = some (.int .i64 (m : Int)) ∧ w'.cell? ⟨w.heap.size, 2, none⟩ = some (.int .i64 b) ∧ w'.cell? ⟨w.heap.size, 3, none⟩ = some (.func (.func 25) #[] #[z1, z2, z3])) W')) := fun W' h => ⟨h.kp k0, h.kp k1, h.kp k2, h.kp k3⟩
    have M1 : True := trivial
    clear k0 k1 k2 k3
    go_region_held3 (fun w' => w'.cell? ⟨w.heap.size, 0, none⟩ = some (.int .i64 (n : Int)) ∧ w'.cell? ⟨w.heap.size, 1, none⟩ = some (.int .i64 (m : Int)) ∧ w'.cell? ⟨w.heap.size, 2, none⟩ = some (.int .i64 b) ∧ w'.cell? ⟨w.heap.size, 3, none⟩ = some (.func (.func 25) #[] #[z1, z2, z3]))
      (exact KS.out _ (by repeat (first | exact Bel.rf | (with_reducible refine Bel.drwN ?_ _) | (with_reducible refine Bel.drw ?_) | (refine Bel.tr ?_ (by assumption)))))
      (first
        | (go_at_call 46; clear M1; refine (HBO.out _).mono ?_; rintro r s1 ⟨p, rfl, hp1, hp2, hp3, hp4⟩)
        | (go_at_call 46; refine (HBO.out _).mono ?_; rintro r s2 ⟨q, rfl, hq1, hq2, hq3, hq4⟩))
    all_goals
      go_wp2_with fail
      go_meet
      have hz : (w.alloc (.cells #[.int .i64 (n : Int), .int .i64 (m : Int), .int .i64 b, .func (.func 25) #[] #[z1, z2, z3]] 56)).heap.size = w.heap.size + 1 := World.size_alloc _ _
      have g1 : (w.alloc (.cells #[.int .i64 (n : Int), .int .i64 (m : Int), .int .i64 b, .func (.func 25) #[] #[z1, z2, z3]] 56)).heap.size ≤ p := hp1
      have g2 : p < q := by have := hq1; have h3 := hp2; first | exact Nat.lt_of_lt_of_le h3 this | omega
      have hp5 := (Bel.drw Bel.rf).tr hp4
      have T : Tab w s2 p q m (List.replicate (m + 1) far) (List.replicate (m + 1) far) #[.int .i64 (n : Int), .int .i64 (m : Int), .int .i64 b, .func (.func 25) #[] #[z1, z2, z3]] := ⟨by omega, by omega, by omega, hp3.bel hq4, hq3, by simp, (HW0.out.bel hp5).bel hq4, (HWB.out.tr hp5).tr hq4⟩
      first
        | exact ⟨p, q, _, rfl, rfl, rfl, T⟩
        | exact ⟨q, p, _, rfl, rfl, rfl, T.sw (by simp)⟩
  case rest =>
    obtain ⟨p, q, wx, hwx, rfl, rfl, hT⟩ := hcut
    subst hwx
    have HT := Lib.hid hT
    have c0 := bk_sz hT.2.2.2.1 (m := m) (t := 0) (by simp) (by omega)
    have f0 := hT.2.2.2.1.fr 0
    have hK0 := (hT.sw (by simp)).st 0 0
    have HT0 : Hid (Tab w (wx.setCell ⟨p, 0, none⟩ (.int .i64 0)) p q m ((List.replicate (m + 1) far).set 0 0) (List.replicate (m + 1) far) #[.int .i64 (n : Int), .int .i64 (m : Int), .int .i64 b, .func (.func 25) #[] #[z1, z2, z3]]) := hK0.sw (by simp)
    have d0 := HT0.out.2.2.2.2.2.2.1.cell 0
    have HRG : Hid (Rg f b 0 m ((List.replicate (m + 1) far).set 0 0)) := ⟨by simp, fun t ht => by
      rw [set_at]
      rcases t with _ | t
      · rw [if_pos (by simp), wg_00]
      · rw [if_neg (by simp), wg_0s, List.getD_eq_getElem?_getD, List.getElem?_replicate, if_pos (by omega)]; rfl⟩
    have mk1 : (0 : Int) < ((m + 1 : Nat) : Int) := by omega
    have mk2 : 0 < m + 1 := by omega
    clear hT hK0 HT HW0 HWB
    go_wp2
    go_loopw [3, 4, 15] (fun s3 s4 s15 wr => ∃ (i : Nat) (V : World) (p q : Nat) (Zp Zq : List Int), V = wr ∧ i ≤ n ∧ s3 = .slice (some ⟨p, 0, none⟩) (m + 1) (m + 1) ∧ s4 = .slice (some ⟨q, 0, none⟩) (m + 1) (m + 1) ∧ s15 = .int .i64 (i : Int) ∧ Rg f b i m Zp ∧ Tab w wr p q m Zp Zq #[.int .i64 (n : Int), .int .i64 (m : Int), .int .i64 b, .func (.func 25) #[] #[z1, z2, z3]]) (fun _ _ s15 _ => n - (intOf s15).toNat)
    case atStart => exact ⟨0, _, p, q, _, _, rfl, by omega, rfl, rfl, rfl, HRG.out, HT0.out⟩
    case round =>
      clear HRG HT0 c0 f0 d0
      obtain ⟨i, wr, p, q, Zp, Zq, hwr, hin, rfl, rfl, rfl, hrp, hT⟩ := hrel
      subst hwr
      have HRP := Lib.hid hrp
      rcases Nat.lt_or_ge i n with hlt | hge
      · have ini : (i : Int) < (n : Int) := by omega
        have q0 := hT.2.2.2.2.1.fr 0
        have cq := bk_sz hT.2.2.2.2.1 hT.2.2.2.2.2.1 (t := 0) (by omega)
        have HT1 := Lib.hid (hT.st 0 4611686018427387904)
        have HZ1 : Hid (∀ t, t ≤ 0 → (Zq.set 0 4611686018427387904).getD t 0 = wg f b (i + 1) t) := fun t ht => by
          obtain rfl : t = 0 := by omega
          rw [set_at, if_pos ⟨rfl, by have := hT.2.2.2.2.2.1; omega⟩, wg_s0]; rfl
        have d1 := HT1.out.2.2.2.2.2.2.1.cell 1
        clear hT hrp
        go_wp2
        go_loopw [22] (fun s22 wy => ∃ (j : Nat) (V : World) (Z : List Int), V = wy ∧ j ≤ m ∧ s22 = .int .i64 (j : Int) ∧ (∀ t, t ≤ j → Z.getD t 0 = wg f b (i + 1) t) ∧ Tab w wy p q m Zp Z #[.int .i64 (n : Int), .int .i64 (m : Int), .int .i64 b, .func (.func 25) #[] #[z1, z2, z3]]) (fun s22 _ => m - (intOf s22).toNat)
        case atStart => exact ⟨0, _, _, rfl, by omega, rfl, HZ1.out, HT1.out⟩
        case round =>
          clear HZ1 HT1 cq q0 d1
          obtain ⟨j, wy, Z, hwr, hjm, rfl, hzt, hT⟩ := hrel
          subst hwr
          have HZT := Lib.hid hzt
          rcases Nat.lt_or_ge j m with hlt2 | hge2
          · obtain ⟨j', hj'⟩ : ∃ j', j + 1 = j' := ⟨_, rfl⟩
            have hji : (j : Int) + 1 = (j' : Int) := by omega
            have j'm : j' ≤ m := by omega
            have j'k : j' < m + 1 := by omega
            have j'i : (j' : Int) < (m : Int) + 1 := by omega
            have j'i2 : (j' : Int) < ((m + 1 : Nat) : Int) := by omega
            have jk : j < m + 1 := by omega
            have jki : (j : Int) < (m : Int) + 1 := by omega
            have jki2 : (j : Int) < ((m + 1 : Nat) : Int) := by omega
            have ji : (j : Int) < (m : Int) := by omega
            have zj : -9223372036854775808 ≤ (j' : Int) ∧ (j' : Int) ≤ 9223372036854775807 := by omega
            have cz := bk_sz hT.2.2.2.2.1 hT.2.2.2.2.2.1 (t := j') (by omega)
            have fz := hT.2.2.2.2.1.fr j'
            obtain ⟨zz, hzz⟩ : ∃ z, Z.getD j' 0 = z := ⟨_, rfl⟩
            rw [hzz] at cz
            obtain ⟨e0, he0⟩ : ∃ d, (i : Int) - (j : Int) = d := ⟨_, rfl⟩
            have zd : -9223372036854775808 ≤ e0 ∧ e0 ≤ 9223372036854775807 := by omega
            have HAB : Hid (∀ W, _) := fun W => abs_eq e0 (by omega) (by omega) W
            have HBD : Hid (ab e0 ≤ b ↔ Bnd b i j) := by
              show _ ↔ _
              unfold ab Bnd
              split <;> constructor <;> intro h <;> (try constructor) <;> omega
            obtain ⟨r0, hr0⟩ : ∃ r, ab e0 = r := ⟨_, rfl⟩
            rw [hr0] at HAB HBD
            have hnn := hT.2.2.2.2.2.1
            have HS1 := Lib.hid (hT.st j' 4611686018427387904)
            have d2 := HS1.out.2.2.2.2.2.2.1.cell 2
            have HIJ := Lib.hid (And.intro hj' hnn)
            have wj2 : IntKind.i64.wrap (j' : Int) = (j' : Int) := IntWalk.i64_in _ zj
            have wd2 : IntKind.i64.wrap e0 = e0 := IntWalk.i64_in _ zd
            clear hT hzt hj' hzz hr0 zj zd hnn
            go_wp2_with fail
            go_quiet ((go_at_call_of 47 (Value.int IntKind.i64 e0); exact Calls.quiet_of_same (HAB.out _)))
            rcases Int.lt_or_le b r0 with hout | hinn
            · have HZ2 : Hid (∀ t, t ≤ j' → (Z.set j' 4611686018427387904).getD t 0 = wg f b (i + 1) t) := fun t ht => by
                rw [set_at]
                rcases Nat.lt_or_ge t j' with h | h
                · rw [if_neg (by omega)]; exact HZT.out t (by have := HIJ.out.1; omega)
                · obtain rfl : t = j' := by omega
                  rw [if_pos ⟨rfl, by have := HIJ.out.2; omega⟩, ← HIJ.out.1, wg_out _ _ _ _ (fun h => by have := HBD.out.2 h; omega)]; rfl
              have hno : ¬ r0 ≤ b := by omega
              go_wp2
              go_roundw
              case rel => exact ⟨j', _, _, rfl, j'm, by first | rfl | go_num, HZ2.out, by first | exact HS1.out | exact HS1.out.bel (Bel.drwN Bel.rf _) | exact HS1.out.bel (Bel.drw Bel.rf)⟩
              case measure => simp [intOf]; omega
            · have ee := wg_in f b i j (HBD.out.1 hinn)
              have b1 := HE.out i j (by omega) (by omega)
              have b2 := HE.out i j' (by omega) (by omega)
              have b3 := HE.out (i + 1) j (by omega) (by omega)
              have b4 := HFB.out i j
              rw [HIJ.out.1] at ee
              obtain ⟨a0, ha0⟩ : ∃ v, wg f b i j = v := ⟨_, rfl⟩
              obtain ⟨h0, hh0⟩ : ∃ v, wg f b i j' = v := ⟨_, rfl⟩
              obtain ⟨g0, hg0⟩ : ∃ v, wg f b (i + 1) j = v := ⟨_, rfl⟩
              obtain ⟨r1, hr1⟩ : ∃ v, f i j = v := ⟨_, rfl⟩
              rw [ha0] at b1 ee
              rw [hh0] at b2 ee
              rw [hg0] at b3 ee
              rw [hr1] at b4 ee
              have k1 := bk_sz HS1.out.2.2.2.1 HRP.out.1 (t := j) (by omega)
              have k2 := bk_sz HS1.out.2.2.2.1 HRP.out.1 (t := j') j'm
              have k3 := bk_sz HS1.out.2.2.2.2.1 HS1.out.2.2.2.2.2.1 (t := j) (by omega)
              have k4 := HS1.out.2.2.2.2.2.2.1.cell 3
              rw [HRP.out.2 j (by omega), ha0] at k1
              rw [HRP.out.2 j' j'm, hh0] at k2
              rw [set_at, if_neg (by have := HIJ.out.1; omega), HZT.out j (Nat.le_refl _), hg0] at k3
              have hmn := mn3_if a0 h0 g0
              have hcase : (h0 < a0 ∧ g0 < h0 ∧ mn3 a0 h0 g0 = g0) ∨ (h0 < a0 ∧ h0 ≤ g0 ∧ mn3 a0 h0 g0 = h0) ∨ (a0 ≤ h0 ∧ g0 < a0 ∧ mn3 a0 h0 g0 = g0) ∨ (a0 ≤ h0 ∧ a0 ≤ g0 ∧ mn3 a0 h0 g0 = a0) := by
                rw [hmn]
                (repeat' split) <;> omega
              have hne : j ≠ j' := by have := HIJ.out.1; omega
              have hpq := HS1.out.1
              have hBq : w.heap.size ≠ q := by have := HS1.out.2.2.1; omega
              have f3 := HS1.out.2.2.2.2.1.fr j'
              have k5 := bk_sz HS1.out.2.2.2.2.1 HS1.out.2.2.2.2.2.1 (t := j') j'm
              obtain ⟨zy, hzy⟩ : ∃ v, (Z.set j' 4611686018427387904).getD j' 0 = v := ⟨_, rfl⟩
              rw [hzy] at k5
              have KS : Hid (∀ W', Bel (wy.setCell ⟨q, j', none⟩ (.int .i64 4611686018427387904)) W' → W'.cell? ⟨w.heap.size, 3, none⟩ = some (.func (.func 25) #[] #[z1, z2, z3]) ∧ W'.cell? ⟨p, j, none⟩ = some (.int .i64 a0) ∧ W'.cell? ⟨p, j', none⟩ = some (.int .i64 h0) ∧ W'.cell? ⟨q, j, none⟩ = some (.int .i64 g0)) := fun W' h => ⟨h.kp k4, h.kp k1, h.kp k2, h.kp k3⟩
              have CC : Hid (∀ W, Bel (wy.setCell ⟨q, j', none⟩ (.int .i64 4611686018427387904)) W → Calls Tryz.prog 25 #[.int .i64 (i : Int), .int .i64 (j : Int), z1, z2, z3] W fun e W' => e = .returned (.int .i64 r1) ∧ Bel W W') := fun W h => by
                rw [← hr1]
                exact HCC.out W (HS1.out.2.2.2.2.2.2.2.tr h) i j hlt hlt2
              have hql := HS1.out.2.2.2.2.1.lt
              have KZ : Hid (∀ W', Bel (wy.setCell ⟨q, j', none⟩ (.int .i64 4611686018427387904)) W' → W'.cell? ⟨q, j', none⟩ = some (.int .i64 zy) ∧ W'.frozen? ⟨q, j', none⟩ = false) := fun W' h => ⟨h.kp k5, (h.cells.2 q j' hql).trans f3⟩
              clear ha0 hh0 hg0 hr1 hmn k1 k2 k3 k4 k5 f3 hql hzy cz fz d2
              rcases hcase with ⟨l1, l2, l3⟩ | ⟨l1, l2, l3⟩ | ⟨l1, l2, l3⟩ | ⟨l1, l2, l3⟩
              · rw [l3] at ee
                have HEQ := Lib.hid ee
                have z2b : -9223372036854775808 ≤ r1 + g0 ∧ r1 + g0 ≤ 9223372036854775807 := by omega
                have HZ2 : Hid (∀ t, t ≤ j' → ((Z.set j' 4611686018427387904).set j' (r1 + g0)).getD t 0 = wg f b (i + 1) t) := fun t ht => by
                  rw [set_at, set_at, List.length_set]
                  rcases Nat.lt_or_ge t j' with h | h
                  · rw [if_neg (by omega), if_neg (by omega)]; exact HZT.out t (by have := HIJ.out.1; omega)
                  · obtain rfl : t = j' := by omega
                    rw [if_pos ⟨rfl, by have := HIJ.out.2; omega⟩]
                    exact HEQ.out.symm
                have w2 : IntKind.i64.wrap (r1 + g0) = r1 + g0 := IntWalk.i64_in _ z2b
                have o1 : (g0 < h0) = True := eq_true l2
                clear ee b1 b2 b3 b4 z2b l3
                go_wp2_with fail
                go_region_held3 (fun w' => w'.cell? ⟨w.heap.size, 3, none⟩ = some (.func (.func 25) #[] #[z1, z2, z3]) ∧ w'.cell? ⟨p, j, none⟩ = some (.int .i64 a0) ∧ w'.cell? ⟨p, j', none⟩ = some (.int .i64 h0) ∧ w'.cell? ⟨q, j, none⟩ = some (.int .i64 g0))
                  (first
                    | (refine KS.out _ ?_; (repeat (first | exact Bel.rf | (with_reducible refine Bel.drwN ?_ _) | (with_reducible refine Bel.drw ?_) | (refine Bel.tr ?_ (by assumption)))); done)
                    | (have hk := KS.out s4 (by repeat (first | exact Bel.rf | (with_reducible refine Bel.drwN ?_ _) | (with_reducible refine Bel.drw ?_) | (refine Bel.tr ?_ (by assumption)))); exact ⟨kp_fb hk.1 hBq _, kp_fb hk.2.1 hpq _, kp_fb hk.2.2.1 hpq _, kp_st hk.2.2.2 hne _⟩))
                  ((go_at_call 25; refine (CC.out _ (by repeat (first | exact Bel.rf | (with_reducible refine Bel.drwN ?_ _) | (with_reducible refine Bel.drw ?_) | (refine Bel.tr ?_ (by assumption))))).mono ?_; rintro r s4 ⟨rfl, h4⟩; obtain ⟨kz1, kz2⟩ := KZ.out s4 (by repeat (first | exact Bel.rf | (with_reducible refine Bel.drwN ?_ _) | (with_reducible refine Bel.drw ?_) | (refine Bel.tr ?_ (by assumption))))))
                all_goals
                  have HS3 := Lib.hid ((HS1.out.bel (show Bel _ s4 by repeat (first | exact Bel.rf | (with_reducible refine Bel.drwN ?_ _) | (with_reducible refine Bel.drw ?_) | (refine Bel.tr ?_ (by assumption))))).st j' (r1 + g0))
                  go_wp2
                  go_roundw
                  case rel => exact ⟨j', _, _, rfl, j'm, by first | rfl | go_num, HZ2.out, by first | exact HS3.out | exact HS3.out.bel (Bel.drwN Bel.rf _) | exact HS3.out.bel (Bel.drw Bel.rf)⟩
                  case measure => simp [intOf]; omega
              · rw [l3] at ee
                have HEQ := Lib.hid ee
                have z2b : -9223372036854775808 ≤ r1 + h0 ∧ r1 + h0 ≤ 9223372036854775807 := by omega
                have HZ2 : Hid (∀ t, t ≤ j' → ((Z.set j' 4611686018427387904).set j' (r1 + h0)).getD t 0 = wg f b (i + 1) t) := fun t ht => by
                  rw [set_at, set_at, List.length_set]
                  rcases Nat.lt_or_ge t j' with h | h
                  · rw [if_neg (by omega), if_neg (by omega)]; exact HZT.out t (by have := HIJ.out.1; omega)
                  · obtain rfl : t = j' := by omega
                    rw [if_pos ⟨rfl, by have := HIJ.out.2; omega⟩]
                    exact HEQ.out.symm
                have w2 : IntKind.i64.wrap (r1 + h0) = r1 + h0 := IntWalk.i64_in _ z2b
                have o1 : (g0 < h0) = False := eq_false (by omega)
                clear ee b1 b2 b3 b4 z2b l3
                go_wp2_with fail
                go_region_held3 (fun w' => w'.cell? ⟨w.heap.size, 3, none⟩ = some (.func (.func 25) #[] #[z1, z2, z3]) ∧ w'.cell? ⟨p, j, none⟩ = some (.int .i64 a0) ∧ w'.cell? ⟨p, j', none⟩ = some (.int .i64 h0) ∧ w'.cell? ⟨q, j, none⟩ = some (.int .i64 g0))
                  (first
                    | (refine KS.out _ ?_; (repeat (first | exact Bel.rf | (with_reducible refine Bel.drwN ?_ _) | (with_reducible refine Bel.drw ?_) | (refine Bel.tr ?_ (by assumption)))); done)
                    | (have hk := KS.out s4 (by repeat (first | exact Bel.rf | (with_reducible refine Bel.drwN ?_ _) | (with_reducible refine Bel.drw ?_) | (refine Bel.tr ?_ (by assumption)))); exact ⟨kp_fb hk.1 hBq _, kp_fb hk.2.1 hpq _, kp_fb hk.2.2.1 hpq _, kp_st hk.2.2.2 hne _⟩))
                  ((go_at_call 25; refine (CC.out _ (by repeat (first | exact Bel.rf | (with_reducible refine Bel.drwN ?_ _) | (with_reducible refine Bel.drw ?_) | (refine Bel.tr ?_ (by assumption))))).mono ?_; rintro r s4 ⟨rfl, h4⟩; obtain ⟨kz1, kz2⟩ := KZ.out s4 (by repeat (first | exact Bel.rf | (with_reducible refine Bel.drwN ?_ _) | (with_reducible refine Bel.drw ?_) | (refine Bel.tr ?_ (by assumption))))))
                all_goals
                  have HS3 := Lib.hid ((HS1.out.bel (show Bel _ s4 by repeat (first | exact Bel.rf | (with_reducible refine Bel.drwN ?_ _) | (with_reducible refine Bel.drw ?_) | (refine Bel.tr ?_ (by assumption))))).st j' (r1 + h0))
                  go_wp2
                  go_roundw
                  case rel => exact ⟨j', _, _, rfl, j'm, by first | rfl | go_num, HZ2.out, by first | exact HS3.out | exact HS3.out.bel (Bel.drwN Bel.rf _) | exact HS3.out.bel (Bel.drw Bel.rf)⟩
                  case measure => simp [intOf]; omega
              · rw [l3] at ee
                have HEQ := Lib.hid ee
                have z2b : -9223372036854775808 ≤ r1 + g0 ∧ r1 + g0 ≤ 9223372036854775807 := by omega
                have HZ2 : Hid (∀ t, t ≤ j' → ((Z.set j' 4611686018427387904).set j' (r1 + g0)).getD t 0 = wg f b (i + 1) t) := fun t ht => by
                  rw [set_at, set_at, List.length_set]
                  rcases Nat.lt_or_ge t j' with h | h
                  · rw [if_neg (by omega), if_neg (by omega)]; exact HZT.out t (by have := HIJ.out.1; omega)
                  · obtain rfl : t = j' := by omega
                    rw [if_pos ⟨rfl, by have := HIJ.out.2; omega⟩]
                    exact HEQ.out.symm
                have w2 : IntKind.i64.wrap (r1 + g0) = r1 + g0 := IntWalk.i64_in _ z2b
                have o1 : (h0 < a0) = False := eq_false (by omega)
                clear ee b1 b2 b3 b4 z2b l3
                go_wp2_with fail
                go_region_held3 (fun w' => w'.cell? ⟨w.heap.size, 3, none⟩ = some (.func (.func 25) #[] #[z1, z2, z3]) ∧ w'.cell? ⟨p, j, none⟩ = some (.int .i64 a0) ∧ w'.cell? ⟨p, j', none⟩ = some (.int .i64 h0) ∧ w'.cell? ⟨q, j, none⟩ = some (.int .i64 g0))
                  (first
                    | (refine KS.out _ ?_; (repeat (first | exact Bel.rf | (with_reducible refine Bel.drwN ?_ _) | (with_reducible refine Bel.drw ?_) | (refine Bel.tr ?_ (by assumption)))); done)
                    | (have hk := KS.out s4 (by repeat (first | exact Bel.rf | (with_reducible refine Bel.drwN ?_ _) | (with_reducible refine Bel.drw ?_) | (refine Bel.tr ?_ (by assumption)))); exact ⟨kp_fb hk.1 hBq _, kp_fb hk.2.1 hpq _, kp_fb hk.2.2.1 hpq _, kp_st hk.2.2.2 hne _⟩))
                  ((go_at_call 25; refine (CC.out _ (by repeat (first | exact Bel.rf | (with_reducible refine Bel.drwN ?_ _) | (with_reducible refine Bel.drw ?_) | (refine Bel.tr ?_ (by assumption))))).mono ?_; rintro r s4 ⟨rfl, h4⟩; obtain ⟨kz1, kz2⟩ := KZ.out s4 (by repeat (first | exact Bel.rf | (with_reducible refine Bel.drwN ?_ _) | (with_reducible refine Bel.drw ?_) | (refine Bel.tr ?_ (by assumption))))))
                all_goals
                  have HS3 := Lib.hid ((HS1.out.bel (show Bel _ s4 by repeat (first | exact Bel.rf | (with_reducible refine Bel.drwN ?_ _) | (with_reducible refine Bel.drw ?_) | (refine Bel.tr ?_ (by assumption))))).st j' (r1 + g0))
                  go_wp2
                  go_roundw
                  case rel => exact ⟨j', _, _, rfl, j'm, by first | rfl | go_num, HZ2.out, by first | exact HS3.out | exact HS3.out.bel (Bel.drwN Bel.rf _) | exact HS3.out.bel (Bel.drw Bel.rf)⟩
                  case measure => simp [intOf]; omega
              · rw [l3] at ee
                have HEQ := Lib.hid ee
                have z2b : -9223372036854775808 ≤ r1 + a0 ∧ r1 + a0 ≤ 9223372036854775807 := by omega
                have HZ2 : Hid (∀ t, t ≤ j' → ((Z.set j' 4611686018427387904).set j' (r1 + a0)).getD t 0 = wg f b (i + 1) t) := fun t ht => by
                  rw [set_at, set_at, List.length_set]
                  rcases Nat.lt_or_ge t j' with h | h
                  · rw [if_neg (by omega), if_neg (by omega)]; exact HZT.out t (by have := HIJ.out.1; omega)
                  · obtain rfl : t = j' := by omega
                    rw [if_pos ⟨rfl, by have := HIJ.out.2; omega⟩]
                    exact HEQ.out.symm
                have w2 : IntKind.i64.wrap (r1 + a0) = r1 + a0 := IntWalk.i64_in _ z2b
                have o1 : (h0 < a0) = False := eq_false (by omega)
                have o2 : (g0 < a0) = False := eq_false (by omega)
                clear ee b1 b2 b3 b4 z2b l3
                go_wp2_with fail
                go_region_held3 (fun w' => w'.cell? ⟨w.heap.size, 3, none⟩ = some (.func (.func 25) #[] #[z1, z2, z3]) ∧ w'.cell? ⟨p, j, none⟩ = some (.int .i64 a0) ∧ w'.cell? ⟨p, j', none⟩ = some (.int .i64 h0) ∧ w'.cell? ⟨q, j, none⟩ = some (.int .i64 g0))
                  (first
                    | (refine KS.out _ ?_; (repeat (first | exact Bel.rf | (with_reducible refine Bel.drwN ?_ _) | (with_reducible refine Bel.drw ?_) | (refine Bel.tr ?_ (by assumption)))); done)
                    | (have hk := KS.out s4 (by repeat (first | exact Bel.rf | (with_reducible refine Bel.drwN ?_ _) | (with_reducible refine Bel.drw ?_) | (refine Bel.tr ?_ (by assumption)))); exact ⟨kp_fb hk.1 hBq _, kp_fb hk.2.1 hpq _, kp_fb hk.2.2.1 hpq _, kp_st hk.2.2.2 hne _⟩))
                  ((go_at_call 25; refine (CC.out _ (by repeat (first | exact Bel.rf | (with_reducible refine Bel.drwN ?_ _) | (with_reducible refine Bel.drw ?_) | (refine Bel.tr ?_ (by assumption))))).mono ?_; rintro r s4 ⟨rfl, h4⟩; obtain ⟨kz1, kz2⟩ := KZ.out s4 (by repeat (first | exact Bel.rf | (with_reducible refine Bel.drwN ?_ _) | (with_reducible refine Bel.drw ?_) | (refine Bel.tr ?_ (by assumption))))))
                all_goals
                  have HS3 := Lib.hid ((HS1.out.bel (show Bel _ s4 by repeat (first | exact Bel.rf | (with_reducible refine Bel.drwN ?_ _) | (with_reducible refine Bel.drw ?_) | (refine Bel.tr ?_ (by assumption))))).st j' (r1 + a0))
                  go_wp2
                  go_roundw
                  case rel => exact ⟨j', _, _, rfl, j'm, by first | rfl | go_num, HZ2.out, by first | exact HS3.out | exact HS3.out.bel (Bel.drwN Bel.rf _) | exact HS3.out.bel (Bel.drw Bel.rf)⟩
                  case measure => simp [intOf]; omega
          · obtain rfl : j = m := by omega
            have HTT := Lib.hid hT
            have HRQ : Hid (Rg f b (i + 1) j Z) := ⟨hT.2.2.2.2.2.1, hzt⟩
            clear hT hzt
            go_wp2
            go_roundw
            case rel => exact ⟨i + 1, _, q, p, Z, Zp, rfl, by omega, rfl, rfl, by go_num, HRQ.out, HTT.out.sw HRP.out.1⟩
            case measure => simp [intOf]; omega
      · obtain rfl : i = n := by omega
        have HTT := Lib.hid hT
        have d1 := hT.2.2.2.2.2.2.1.cell 1
        have c1 := bk_sz hT.2.2.2.1 hrp.1 (t := m) (Nat.le_refl _)
        rw [hrp.2 m (Nat.le_refl _)] at c1
        have mk3 : (m : Int) < ((m + 1 : Nat) : Int) := by omega
        have mk4 : (m : Int) < (m : Int) + 1 := by omega
        clear hT hrp
        go_wp2
        go_ret
        exact ⟨rfl, HTT.out.2.2.2.2.2.2.2⟩
end Go.Proofs.YtpbnabibnkohdaaGreatDoor.Ch
namespace Go.Proofs.YtpbnabibnkohdaaGreatDoor.Ch
open Go.ChangeShapes Go.WideShapes Go.RowKit Wo Sr Wi Nr
set_option linter.unusedVariables false
set_option maxHeartbeats 8000000 in
set_option maxRecDepth 100000 in
theorem apart1_ok (bx bc by_ g1 g2 q n m c1 c2 c : Nat) (As Bs : Nat → Option Addr) (cs ds : Nat → Nat) (Ls Ms : Nat → List Int) (hc : c < q) (q4 : q ≤ 4) (i j : Nat) (hi : i < n) (hj : j < m) (n32 : n ≤ 32) (m32 : m ≤ 32) (w : World)
    (kx : w.cell? ⟨bx, 0, none⟩ = some (.slice (some ⟨g1, 0, none⟩) q c1)) (kc : w.cell? ⟨bc, 0, none⟩ = some (.int .i64 (c : Int))) (ky : w.cell? ⟨by_, 0, none⟩ = some (.slice (some ⟨g2, 0, none⟩) q c2)) (hX : Bun w g1 q n As cs Ls) (hY : Bun w g2 q m Bs ds Ms) :
    Calls Tryz.prog 25 #[.int .i64 (i : Int), .int .i64 (j : Int), .pointer (some ⟨bx, 0, none⟩), .pointer (some ⟨bc, 0, none⟩), .pointer (some ⟨by_, 0, none⟩)] w fun e w' => e = .returned (.int .i64 (cst (Ls c) (Ms c) i j)) ∧ Bel w w' := by
  obtain ⟨k1, z1, s1⟩ := hX.2 c hc
  obtain ⟨k2, z2, s2⟩ := hY.2 c hc
  obtain ⟨a1, e1, _, h1⟩ := z1.2 (by omega)
  obtain ⟨a2, e2, _, h2⟩ := z2.2 (by omega)
  have k3 := h1 i hi
  have k4 := h2 j hj
  have b1 := s1.at i
  have b2 := s2.at j
  rw [e1] at k1
  rw [e2] at k2
  unfold cst
  obtain ⟨x, hx⟩ : ∃ x, (Ls c).getD i 0 = x := ⟨_, rfl⟩
  obtain ⟨y, hy⟩ : ∃ y, (Ms c).getD j 0 = y := ⟨_, rfl⟩
  rw [hx] at k3 b1 ⊢
  rw [hy] at k4 b2 ⊢
  obtain ⟨d, hd⟩ : ∃ d, x - y = d := ⟨_, rfl⟩
  have SQ : Hid (∀ W, _) := fun W => square_ok d (by omega) (by omega) W
  have i1 : (c : Int) < (q : Int) := by omega
  have i2 : (i : Int) < (n : Int) := by omega
  have i3 : (j : Int) < (m : Int) := by omega
  have i4 : (q : Int) ≤ 4 := by omega
  have i5 : (n : Int) ≤ 32 := by omega
  have i6 : (m : Int) ≤ 32 := by omega
  have wd : IntKind.i64.wrap d = d := IntWalk.i64_in _ ⟨by omega, by omega⟩
  rw [hd]
  have KS : Hid (∀ W', Bel w W' → ((fun w' => w'.cell? ⟨bx, 0, none⟩ = some (.slice (some ⟨g1, 0, none⟩) q c1) ∧ w'.cell? ⟨bc, 0, none⟩ = some (.int .i64 (c : Int)) ∧ w'.cell? ⟨by_, 0, none⟩ = some (.slice (some ⟨g2, 0, none⟩) q c2) ∧ w'.cell? ⟨g1, c, none⟩ = some (.slice (some a1) n (cs c)) ∧ w'.cell? ⟨g2, c, none⟩ = some (.slice (some a2) m (ds c)) ∧ w'.cell? (a1.add i) = some (.int .i64 x) ∧ w'.cell? (a2.add j) = some (.int .i64 y)) W')) :=
    fun W' h => ⟨h.kp kx, h.kp kc, h.kp ky, h.kp k1, h.kp k2, h.kp k3, h.kp k4⟩
  clear kx kc ky k1 k2 k3 k4 hX hY z1 z2 s1 s2 h1 h2 hx hy b1 b2 e1 e2
  go_enter Tryz.func25, Tryz.ntmps25
  go_wp2_with fail
  go_region_held3 (fun w' => w'.cell? ⟨bx, 0, none⟩ = some (.slice (some ⟨g1, 0, none⟩) q c1) ∧ w'.cell? ⟨bc, 0, none⟩ = some (.int .i64 (c : Int)) ∧ w'.cell? ⟨by_, 0, none⟩ = some (.slice (some ⟨g2, 0, none⟩) q c2) ∧ w'.cell? ⟨g1, c, none⟩ = some (.slice (some a1) n (cs c)) ∧ w'.cell? ⟨g2, c, none⟩ = some (.slice (some a2) m (ds c)) ∧ w'.cell? (a1.add i) = some (.int .i64 x) ∧ w'.cell? (a2.add j) = some (.int .i64 y))
    (exact KS.out _ (by repeat (first | exact Bel.rf | (with_reducible refine Bel.drwN ?_ _) | (with_reducible refine Bel.drw ?_) | (refine Bel.tr ?_ (by assumption)))))
    ((go_at_call 26; refine (SQ.out _).mono ?_; rintro r s4 ⟨rfl, rfl⟩))
  all_goals
    go_wp2
    go_ret
    exact ⟨rfl, by repeat (first | exact Bel.rf | (with_reducible refine Bel.drwN ?_ _) | (with_reducible refine Bel.drw ?_) | (refine Bel.tr ?_ (by assumption)))⟩
end Go.Proofs.YtpbnabibnkohdaaGreatDoor.Ch
namespace Go.Proofs.YtpbnabibnkohdaaGreatDoor.Ch
open Go.ChangeShapes Go.WideShapes Go.RowKit Wo Sr Wi Nr
set_option linter.unusedVariables false
/-- the sum of the least costs of the first channels -/
def aps (b : Int) (n m : Nat) (Ls Ms : Nat → List Int) : Nat → Int
  | 0 => 0
  | c + 1 => aps b n m Ls Ms c + wg (cst (Ls c) (Ms c)) b n m
theorem cst_fb {X Y : List Int} (hs : Sam X) (ht : Sam Y) : Fb (cst X Y) := fun i j => by have := cst_in hs ht i j; omega
theorem wg_bd {X Y : List Int} {b : Int} {n m : Nat} (hs : Sam X) (ht : Sam Y) (b0 : 0 ≤ b) (n1 : 1 ≤ n) (m1 : 1 ≤ m) (n32 : n ≤ 32) (m32 : m ≤ 32) (h1 : (n : Int) - (m : Int) ≤ b) (h2 : (m : Int) - (n : Int) ≤ b) : 0 ≤ wg (cst X Y) b n m ∧ wg (cst X Y) b n m ≤ 2000000000 := by
  obtain ⟨i, rfl⟩ : ∃ i, n = i + 1 := ⟨n - 1, by omega⟩
  obtain ⟨j, rfl⟩ : ∃ j, m = j + 1 := ⟨m - 1, by omega⟩
  have := wg_fin (cst_fb hs ht) b0 (i + j) i j rfl ⟨by omega, by omega⟩
  omega
theorem aps_bd {b : Int} {n m : Nat} {Ls Ms : Nat → List Int} : ∀ q, (∀ c, c < q → 0 ≤ wg (cst (Ls c) (Ms c)) b n m ∧ wg (cst (Ls c) (Ms c)) b n m ≤ 2000000000) → 0 ≤ aps b n m Ls Ms q ∧ aps b n m Ls Ms q ≤ 2000000000 * (q : Int)
  | 0, _ => by show (0 : Int) ≤ 0 ∧ (0 : Int) ≤ _; omega
  | q + 1, h => by
    have h1 := aps_bd q (fun c hc => h c (by omega))
    have h2 := h q (by omega)
    show 0 ≤ aps b n m Ls Ms q + _ ∧ aps b n m Ls Ms q + _ ≤ _
    omega
set_option maxHeartbeats 16000000 in
set_option maxRecDepth 100000 in
theorem apart_ok (g1 g2 q n m c1 c2 : Nat) (As Bs : Nat → Option Addr) (cs ds : Nat → Nat) (Ls Ms : Nat → List Int) (b : Int) (q1 : 1 ≤ q) (q4 : q ≤ 4) (n2 : 2 ≤ n) (n32 : n ≤ 32) (m2 : 2 ≤ m) (m32 : m ≤ 32) (b0 : 0 ≤ b) (b32 : b ≤ 32)
    (hb1 : (n : Int) - (m : Int) ≤ b) (hb2 : (m : Int) - (n : Int) ≤ b) (w : World) (hX : Bun w g1 q n As cs Ls) (hY : Bun w g2 q m Bs ds Ms) :
    Calls Tryz.prog 9 #[.slice (some ⟨g1, 0, none⟩) q c1, .slice (some ⟨g2, 0, none⟩) q c2, .int .i64 b] w fun e w' => e = .returned (.tuple #[.int .i64 (aps b n m Ls Ms q), .int .i64 0]) ∧ Bel w w' := by
  have HX := Lib.hid hX
  have HY := Lib.hid hY
  have i2 : (q : Int) ≤ 4 := by omega
  have HQ := Lib.hid (And.intro q1 (And.intro q4 (And.intro n2 (And.intro n32 (And.intro m2 (And.intro m32 (And.intro hb1 hb2)))))))
  have CB : Hid (∀ W, Bel w W → Calls Tryz.prog 24 #[.slice (some ⟨g1, 0, none⟩) q c1, .slice (some ⟨g2, 0, none⟩) q c2, .int .i64 b] W fun e w' => e = .returned (.int .i64 0) ∧ Bel W w') := fun W h =>
    band_ok g1 g2 q n m c1 c2 As Bs cs ds Ls Ms b q1 q4 n2 n32 m2 m32 b0 b32 hb1 hb2 W (hX.bel h) (hY.bel h)
  have WB : Hid (∀ c, c < q → 0 ≤ wg (cst (Ls c) (Ms c)) b n m ∧ wg (cst (Ls c) (Ms c)) b n m ≤ 2000000000) := fun c hc => wg_bd (hX.2 c hc).2.2 (hY.2 c hc).2.2 b0 (by omega) (by omega) n32 m32 hb1 hb2
  have HBX : Hid (Bk ((w.alloc (.cells #[.slice (some ⟨g1, 0, none⟩) q c1] 31)).alloc (.cells #[.slice (some ⟨g2, 0, none⟩) q c2] 31)) w.heap.size 31 #[.slice (some ⟨g1, 0, none⟩) q c1]) := (Bk.nw _ _ _).al _
  have HBY : Hid (Bk ((w.alloc (.cells #[.slice (some ⟨g1, 0, none⟩) q c1] 31)).alloc (.cells #[.slice (some ⟨g2, 0, none⟩) q c2] 31)) (w.heap.size + 1) 31 #[.slice (some ⟨g2, 0, none⟩) q c2]) := Bk.nq _ _ _ (by simp)
  have HW0 : Hid (Bel w ((w.alloc (.cells #[.slice (some ⟨g1, 0, none⟩) q c1] 31)).alloc (.cells #[.slice (some ⟨g2, 0, none⟩) q c2] 31))) := (Bel.rf.al _).al _
  have hb0 : Hid (0 ≤ b) := b0
  have hb32 : Hid (b ≤ 32) := b32
  clear hX hY hb1 hb2 n2 n32 m2 m32 b0 b32
  go_enter Tryz.func9, Tryz.ntmps9
  go_wp2_with fail
  go_at_call 24
  refine (CB.out _ HW0.out).mono ?_
  rintro e w1 ⟨rfl, hb⟩
  have HB1 : Hid (Bel w w1) := HW0.out.tr hb
  have HX1 := Lib.hid (HBX.out.bel hb)
  have HY1 := Lib.hid (HBY.out.bel hb)
  have k1 : w1.cell? ⟨w.heap.size, 0, none⟩ = some (.slice (some ⟨g1, 0, none⟩) q c1) := HX1.out.cell 0
  clear hb HBX HBY HW0 CB
  go_wp2
  go_loopw [9, 21] (fun s9 s21 wr => ∃ (t : Nat) (V : World), V = wr ∧ t ≤ q ∧ s9 = .int .i64 (aps b n m Ls Ms t) ∧ s21 = .int .i64 (t : Int) ∧ Bel w1 wr) (fun _ s21 _ => q - (intOf s21).toNat)
  case atStart => exact ⟨0, _, rfl, by omega, rfl, rfl, Bel.rf⟩
  case round =>
    obtain ⟨t, wr, hwr, ht, rfl, rfl, hb⟩ := hrel
    subst hwr
    have HB := Lib.hid hb
    clear hb k1
    rcases Nat.lt_or_ge t q with hlt | hge
    · have ti : (t : Int) < (q : Int) := by omega
      have HN0 : Hid (Bk (wr.alloc (.cells #[.int .i64 (t : Int)] 3)) wr.heap.size 3 #[.int .i64 (t : Int)]) := Bk.nw _ _ _
      have HV0 : Hid (Bel w1 (wr.alloc (.cells #[.int .i64 (t : Int)] 3))) := HB.out.al _
      have e1 := (HX1.out.bel HV0.out).cell 0
      have e2 := (HY1.out.bel HV0.out).cell 0
      have e3 := HN0.out.cell 0
      have e4 := ((HX.out.bel (HB1.out.tr HV0.out)).2 t hlt).1
      have e5 := ((HY.out.bel (HB1.out.tr HV0.out)).2 t hlt).1
      have KS : Hid (∀ W', Bel (wr.alloc (.cells #[.int .i64 (t : Int)] 3)) W' → ((fun w' => w'.cell? ⟨w.heap.size, 0, none⟩ = some (.slice (some ⟨g1, 0, none⟩) q c1) ∧ w'.cell? ⟨w.heap.size + 1, 0, none⟩ = some (.slice (some ⟨g2, 0, none⟩) q c2) ∧ w'.cell? ⟨wr.heap.size, 0, none⟩ = some (.int .i64 (t : Int)) ∧ w'.cell? ⟨g1, t, none⟩ = some (.slice (As t) n (cs t)) ∧ w'.cell? ⟨g2, t, none⟩ = some (.slice (Bs t) m (ds t))) W')) := fun W' h => ⟨h.kp e1, h.kp e2, h.kp e3, h.kp e4, h.kp e5⟩
      have hqq := HQ.out
      have LE : Hid (∀ W, Bel (wr.alloc (.cells #[.int .i64 (t : Int)] 3)) W → Calls Tryz.prog 27 #[.agg #[.int .i64 (n : Int), .int .i64 (m : Int), .int .i64 b, .func (.func 25) #[] #[.pointer (some ⟨w.heap.size, 0, none⟩), .pointer (some ⟨wr.heap.size, 0, none⟩), .pointer (some ⟨w.heap.size + 1, 0, none⟩)]]] W fun e w' => e = .returned (.int .i64 (wg (cst (Ls t) (Ms t)) b n m)) ∧ Bel W w') := fun W h =>
        least_apart n m b (cst (Ls t) (Ms t)) (by omega) (by omega) (by omega) (by omega) hb0.out hb32.out (cst_fb (HX.out.2 t hlt).2.2 (HY.out.2 t hlt).2.2) _ _ _ W
          (fun W' h' i j hi hj => apart1_ok w.heap.size wr.heap.size (w.heap.size + 1) g1 g2 q n m c1 c2 t As Bs cs ds Ls Ms hlt (by omega) i j hi hj (by omega) (by omega) W' (KS.out W' (h.tr h')).1 (KS.out W' (h.tr h')).2.2.1 (KS.out W' (h.tr h')).2.1 (HX.out.bel (HB1.out.tr (HV0.out.tr (h.tr h')))) (HY.out.bel (HB1.out.tr (HV0.out.tr (h.tr h')))))
      have HA : Hid (aps b n m Ls Ms (t + 1) = aps b n m Ls Ms t + wg (cst (Ls t) (Ms t)) b n m) := rfl
      have bd := aps_bd (t + 1) (fun c hc => WB.out c (by omega)) (b := b) (n := n) (m := m) (Ls := Ls) (Ms := Ms)
      have bd0 := aps_bd t (fun c hc => WB.out c (by omega)) (b := b) (n := n) (m := m) (Ls := Ls) (Ms := Ms)
      have wa : IntKind.i64.wrap (aps b n m Ls Ms t + wg (cst (Ls t) (Ms t)) b n m) = aps b n m Ls Ms t + wg (cst (Ls t) (Ms t)) b n m := by
        rw [← HA.out]; exact IntWalk.i64_in _ ⟨by omega, by omega⟩
      obtain ⟨u, hu⟩ : ∃ u, wg (cst (Ls t) (Ms t)) b n m = u := ⟨_, rfl⟩
      rw [hu] at wa LE HA
      obtain ⟨v, hv⟩ : ∃ v, aps b n m Ls Ms t = v := ⟨_, rfl⟩
      rw [hv] at wa HA ⊢
      clear e1 e2 e3 e4 e5 hqq bd bd0 hu hv
      go_wp2_with fail
      go_region_held3 (fun w' => w'.cell? ⟨w.heap.size, 0, none⟩ = some (.slice (some ⟨g1, 0, none⟩) q c1) ∧ w'.cell? ⟨w.heap.size + 1, 0, none⟩ = some (.slice (some ⟨g2, 0, none⟩) q c2) ∧ w'.cell? ⟨wr.heap.size, 0, none⟩ = some (.int .i64 (t : Int)) ∧ w'.cell? ⟨g1, t, none⟩ = some (.slice (As t) n (cs t)) ∧ w'.cell? ⟨g2, t, none⟩ = some (.slice (Bs t) m (ds t)))
        (first
          | (refine KS.out _ ?_; (repeat (first | exact Bel.rf | (with_reducible refine Bel.drwN ?_ _) | (with_reducible refine Bel.drw ?_) | (with_reducible refine Bel.al ?_ _) | ((with_reducible refine Bel.st2 ?_ ?_ _); (show _ ≤ _); (simp only [World.size_alloc, World.heap_drew]; omega)) | (refine Bel.tr ?_ (by assumption)))); done))
        (fail)
      all_goals
        go_wp2_with fail
        go_at_call 27
        refine (LE.out _ (by repeat (first | exact Bel.rf | (with_reducible refine Bel.drwN ?_ _) | (with_reducible refine Bel.drw ?_) | (with_reducible refine Bel.al ?_ _)))).mono ?_
        rintro e w9 ⟨rfl, h9⟩
        have HB9 : Hid (Bel w1 w9) := HV0.out.tr (((Bel.rf.al _).drw).tr h9)
        clear h9
        go_wp2
        go_roundw
        case rel => exact ⟨t + 1, _, rfl, by omega, by rw [HA.out], by go_num, by first | exact HB9.out | exact HB9.out.drw | exact HB9.out.drwN _⟩
        case measure => simp [intOf]; omega
    · obtain rfl : t = q := by omega
      go_wp2
      exact bodyPost_ret (v := .tuple #[.int .i64 (aps b n m Ls Ms t), .int .i64 0]) (by simp [results, Tryz.results9, go_sem]) rfl ⟨rfl, HB1.out.tr HB.out⟩
end Go.Proofs.YtpbnabibnkohdaaGreatDoor.Ch
namespace Go.Proofs.YtpbnabibnkohdaaGreatDoor.Ch
open Go.ChangeShapes Go.WideShapes Go.RowKit Wo Sr Wi Nr
set_option linter.unusedVariables false
/-- the cost of a pair in the first channels -/
def fs (Ls Ms : Nat → List Int) : Nat → Nat → Nat → Int
  | 0 => fun _ _ => 0
  | c + 1 => fun i j => fs Ls Ms c i j + cst (Ls c) (Ms c) i j
theorem fs_in {Ls Ms : Nat → List Int} : ∀ q, (∀ c, c < q → Sam (Ls c) ∧ Sam (Ms c)) → ∀ i j, 0 ≤ fs Ls Ms q i j ∧ fs Ls Ms q i j ≤ 4000000 * (q : Int)
  | 0, _, i, j => by show (0 : Int) ≤ 0 ∧ (0 : Int) ≤ _; omega
  | q + 1, h, i, j => by
    have h1 := fs_in q (fun c hc => h c (by omega)) i j
    have h2 := cst_in (h q (by omega)).1 (h q (by omega)).2 i j
    show 0 ≤ fs Ls Ms q i j + _ ∧ fs Ls Ms q i j + _ ≤ _
    omega
set_option maxHeartbeats 8000000 in
set_option maxRecDepth 100000 in
theorem together1_ok (bx by_ g1 g2 q n m c1 c2 : Nat) (As Bs : Nat → Option Addr) (cs ds : Nat → Nat) (Ls Ms : Nat → List Int) (q4 : q ≤ 4) (i j : Nat) (hi : i < n) (hj : j < m) (n32 : n ≤ 32) (m32 : m ≤ 32) (w : World)
    (kx : w.cell? ⟨bx, 0, none⟩ = some (.slice (some ⟨g1, 0, none⟩) q c1)) (ky : w.cell? ⟨by_, 0, none⟩ = some (.slice (some ⟨g2, 0, none⟩) q c2)) (hX : Bun w g1 q n As cs Ls) (hY : Bun w g2 q m Bs ds Ms) :
    Calls Tryz.prog 28 #[.int .i64 (i : Int), .int .i64 (j : Int), .pointer (some ⟨bx, 0, none⟩), .pointer (some ⟨by_, 0, none⟩)] w fun e w' => e = .returned (.int .i64 (fs Ls Ms q i j)) ∧ Bel w w' := by
  have HX := Lib.hid hX
  have HY := Lib.hid hY
  have HKX := Lib.hid kx
  have HKY := Lib.hid ky
  have i2 : (i : Int) < (n : Int) := by omega
  have i3 : (j : Int) < (m : Int) := by omega
  have i4 : (q : Int) ≤ 4 := by omega
  have i5 : (n : Int) ≤ 32 := by omega
  have i6 : (m : Int) ≤ 32 := by omega
  have FI : Hid (∀ t, t ≤ q → 0 ≤ fs Ls Ms t i j ∧ fs Ls Ms t i j ≤ 4000000 * (t : Int)) := fun t ht => fs_in t (fun c hc => ⟨(hX.2 c (by omega)).2.2, (hY.2 c (by omega)).2.2⟩) i j
  clear hX hY ky
  go_enter Tryz.func28, Tryz.ntmps28
  go_wp2
  go_loopw [7, 11] (fun s7 s11 wr => ∃ (t : Nat) (V : World), V = wr ∧ t ≤ q ∧ s7 = .int .i64 (fs Ls Ms t i j) ∧ s11 = .int .i64 (t : Int) ∧ Bel w wr) (fun _ s11 _ => q - (intOf s11).toNat)
  case atStart => exact ⟨0, _, rfl, by omega, rfl, rfl, Bel.rf⟩
  case round =>
    obtain ⟨t, wr, hwr, ht, rfl, rfl, hb⟩ := hrel
    subst hwr
    have HB := Lib.hid hb
    clear hb kx
    rcases Nat.lt_or_ge t q with hlt | hge
    · have ti : (t : Int) < (q : Int) := by omega
      obtain ⟨k1, z1, s1⟩ := (HX.out.bel HB.out).2 t hlt
      obtain ⟨k2, z2, s2⟩ := (HY.out.bel HB.out).2 t hlt
      obtain ⟨a1, e1, _, h1⟩ := z1.2 (by omega)
      obtain ⟨a2, e2, _, h2⟩ := z2.2 (by omega)
      have k3 := h1 i hi
      have k4 := h2 j hj
      have b1 := s1.at i
      have b2 := s2.at j
      rw [e1] at k1
      rw [e2] at k2
      have HF : Hid (fs Ls Ms (t + 1) i j = fs Ls Ms t i j + cst (Ls t) (Ms t) i j) := rfl
      have f1 := FI.out t ht
      have f2 := FI.out (t + 1) hlt
      unfold cst at HF
      obtain ⟨x, hx⟩ : ∃ x, (Ls t).getD i 0 = x := ⟨_, rfl⟩
      obtain ⟨y, hy⟩ : ∃ y, (Ms t).getD j 0 = y := ⟨_, rfl⟩
      rw [hx] at k3 b1 HF
      rw [hy] at k4 b2 HF
      obtain ⟨d, hd⟩ : ∃ d, x - y = d := ⟨_, rfl⟩
      have SQ : Hid (∀ W, _) := fun W => square_ok d (by omega) (by omega) W
      have hsq := sq_bd (B := 2000) (x := d) (by omega) (by omega)
      have wd : IntKind.i64.wrap d = d := IntWalk.i64_in _ ⟨by omega, by omega⟩
      rw [hd] at HF
      obtain ⟨u, hu⟩ : ∃ u, d * d = u := ⟨_, rfl⟩
      rw [hu] at HF SQ hsq
      obtain ⟨v, hv⟩ : ∃ v, fs Ls Ms t i j = v := ⟨_, rfl⟩
      rw [hv] at HF f1 ⊢
      have wv : IntKind.i64.wrap (v + u) = v + u := IntWalk.i64_in _ ⟨by omega, by omega⟩
      have k5 := HB.out.kp HKX.out
      have k6 := HB.out.kp HKY.out
      have KS : Hid (∀ W', Bel wr W' → ((fun w' => w'.cell? ⟨bx, 0, none⟩ = some (.slice (some ⟨g1, 0, none⟩) q c1) ∧ w'.cell? ⟨by_, 0, none⟩ = some (.slice (some ⟨g2, 0, none⟩) q c2) ∧ w'.cell? ⟨g1, t, none⟩ = some (.slice (some a1) n (cs t)) ∧ w'.cell? ⟨g2, t, none⟩ = some (.slice (some a2) m (ds t)) ∧ w'.cell? (a1.add i) = some (.int .i64 x) ∧ w'.cell? (a2.add j) = some (.int .i64 y)) W')) :=
        fun W' h => ⟨h.kp k5, h.kp k6, h.kp k1, h.kp k2, h.kp k3, h.kp k4⟩
      clear k1 k2 k3 k4 k5 k6 z1 z2 s1 s2 h1 h2 hx hy b1 b2 e1 e2 f1 f2 hsq hu hv
      go_wp2_with fail
      go_region_held3 (fun w' => w'.cell? ⟨bx, 0, none⟩ = some (.slice (some ⟨g1, 0, none⟩) q c1) ∧ w'.cell? ⟨by_, 0, none⟩ = some (.slice (some ⟨g2, 0, none⟩) q c2) ∧ w'.cell? ⟨g1, t, none⟩ = some (.slice (some a1) n (cs t)) ∧ w'.cell? ⟨g2, t, none⟩ = some (.slice (some a2) m (ds t)) ∧ w'.cell? (a1.add i) = some (.int .i64 x) ∧ w'.cell? (a2.add j) = some (.int .i64 y))
        (exact KS.out _ (by repeat (first | exact Bel.rf | (with_reducible refine Bel.drwN ?_ _) | (with_reducible refine Bel.drw ?_) | (refine Bel.tr ?_ (by assumption)))))
        ((go_at_call 26; refine (SQ.out _).mono ?_; rintro r s4 ⟨rfl, rfl⟩))
      all_goals
        go_wp2
        go_roundw
        case rel => exact ⟨t + 1, _, rfl, by omega, by rw [HF.out], by go_num, by first | exact HB.out | exact HB.out.drw | exact HB.out.drwN _⟩
        case measure => simp [intOf]; omega
    · obtain rfl : t = q := by omega
      go_wp2
      go_ret
      exact ⟨rfl, HB.out⟩
end Go.Proofs.YtpbnabibnkohdaaGreatDoor.Ch
namespace Go.Proofs.YtpbnabibnkohdaaGreatDoor.Eu
open Go.ChangeShapes Go.WideShapes Go.RowKit Wo Sr Wi
set_option linter.unusedVariables false
theorem sam_l {L : List Int} (h : (L.all fun x => decide (-1000 ≤ x) && decide (x ≤ 1000)) = true) : Sam L := fun x hx => by
  have := List.all_eq_true.1 h x hx
  simpa using this
set_option maxHeartbeats 4000000 in
theorem windows_ok (A A' : Option Addr) (c c' n : Nat) (L M : List Int) (n1 : 2 ≤ n) (n2 : n ≤ 32) (hs : Sam L) (ht : Sam M) (w : World) (h1 : Zi w A n L) (h2 : Zi w A' n M) :
    Calls Tryz.prog 52 #[.slice A n c, .slice A' n c', .int .i64 0] w fun e w' => e = .returned (.int .i64 0) ∧ Bel w w' := by
  have H1 := Lib.hid h1
  have H2 := Lib.hid h2
  have HS := Lib.hid hs
  have HT := Lib.hid ht
  have i1 : 2 ≤ (n : Int) := by omega
  have i2 : (n : Int) ≤ 32 := by omega
  clear h1 h2 hs ht
  go_enter Tryz.func52, Tryz.ntmps52
  go_wp2_with fail
  go_at_call 49
  refine (length_ok (n : Int) i1 i2 _).mono ?_
  rintro e v ⟨rfl, rfl⟩
  go_wp2_with fail
  go_at_call 49
  refine (length_ok (n : Int) i1 i2 _).mono ?_
  rintro e v ⟨rfl, rfl⟩
  go_wp2_with fail
  go_at_call 50
  refine (samples_ok A c n L (by omega) HS.out _ H1.out).mono ?_
  rintro e w1 ⟨rfl, hb1⟩
  have HB1 := Lib.hid hb1
  clear hb1
  go_wp2_with (go_at_call 50; refine (samples_ok A' c' n M (by omega) HT.out _ (H2.out.bel HB1.out)).mono ?_; rintro e w2 ⟨rfl, hb2⟩)
  go_ret
  exact ⟨rfl, HB1.out.tr hb2⟩
theorem window_ok (A : Option Addr) (c n : Nat) (L : List Int) (n1 : 2 ≤ n) (n2 : n ≤ 32) (hs : Sam L) (w : World) (h1 : Zi w A n L) :
    Calls Tryz.prog 68 #[.slice A n c] w fun e w' => e = .returned (.int .i64 0) ∧ Bel w w' := by
  have H1 := Lib.hid h1
  have HS := Lib.hid hs
  have i1 : 2 ≤ (n : Int) := by omega
  have i2 : (n : Int) ≤ 32 := by omega
  clear h1 hs
  go_enter Tryz.func68, Tryz.ntmps68
  go_wp2_with fail
  go_at_call 49
  refine (length_ok (n : Int) i1 i2 _).mono ?_
  rintro e v ⟨rfl, rfl⟩
  go_wp2_with (go_at_call 50; refine (samples_ok A c n L (by omega) HS.out _ H1.out).mono ?_; rintro e w2 ⟨rfl, hb2⟩)
  go_ret
  exact ⟨rfl, hb2⟩
/-- a part of a slice -/
theorem zi_sub {w : World} {h N : Nat} {Z : List Int} (hz : Zi w (some ⟨h, 0, none⟩) N Z) (i n : Nat) (hi : i + n ≤ N) : Zi w (some ⟨h, i, none⟩) n ((Z.drop i).take n) := by
  have hl := hz.1
  refine ⟨by simp; omega, fun hn => ?_⟩
  obtain ⟨ad, e, hx, _⟩ := hz.2 (by omega)
  cases e
  refine ⟨_, rfl, hx, fun j hj => ?_⟩
  have := hz.at (i + j) (by omega)
  rw [show (⟨h, i, none⟩ : Addr).add j = ⟨h, i + j, none⟩ by unfold Addr.add; split <;> simp_all, this]
  simp [List.getD_eq_getElem?_getD, hj]
set_option maxHeartbeats 4000000 in
theorem ints_diff (A A' : Option Addr) (c c' n : Nat) (L M : List Int) (hn : n ≤ 1000000) (hd : L ≠ M) (w : World) (h1 : Zi w A n L) (h2 : Zi w A' n M) :
    Calls Tryz.prog 39 #[.slice A n c, .slice A' n c'] w fun e w' => e = .returned (.bool false) ∧ Bel w w' := by
  have H1 := Lib.hid h1
  have H2 := Lib.hid h2
  have ni : (n : Int) ≤ 1000000 := by omega
  have HDF : Hid (¬ ∀ j, j < n → L.getD j 0 = M.getD j 0) := by
    show ¬ _
    intro hall
    apply hd
    apply List.ext_getElem?
    intro i
    rcases Nat.lt_or_ge i n with hi | hi
    · have := hall i hi
      rw [List.getD_eq_getElem?_getD, List.getD_eq_getElem?_getD, List.getElem?_eq_getElem (by rw [h1.1]; exact hi), List.getElem?_eq_getElem (by rw [h2.1]; exact hi)] at this
      rw [List.getElem?_eq_getElem (by rw [h1.1]; exact hi), List.getElem?_eq_getElem (by rw [h2.1]; exact hi)]
      exact congrArg some this
    · rw [List.getElem?_eq_none (by rw [h1.1]; exact hi), List.getElem?_eq_none (by rw [h2.1]; exact hi)]
  clear h1 h2 hd
  go_enter Tryz.func39, Tryz.ntmps39
  go_wp2
  go_loopw [13] (fun s13 wr => ∃ (k : Nat) (V : World), V = wr ∧ k ≤ n ∧ s13 = .int .i64 (k : Int) ∧ (∀ j, j < k → L.getD j 0 = M.getD j 0) ∧ Bel w wr) (fun s13 _ => n - (intOf s13).toNat)
  case atStart => exact ⟨0, _, rfl, by omega, rfl, fun j hj => by omega, Bel.rf⟩
  case round =>
    obtain ⟨k, wr, hwr, hk, rfl, hall, hb⟩ := hrel
    subst hwr
    have HB := Lib.hid hb
    have HAL := Lib.hid hall
    rcases Nat.lt_or_ge k n with hlt | hge
    · obtain ⟨ad, rfl, hab, hac⟩ := (H1.out.bel hb).2 (by omega)
      obtain ⟨ad', rfl, hab', hac'⟩ := (H2.out.bel hb).2 (by omega)
      have c1 := hac k hlt
      have c2 := hac' k hlt
      obtain ⟨x, hx⟩ : ∃ x, L.getD k 0 = x := ⟨_, rfl⟩
      obtain ⟨y, hy⟩ : ∃ x, M.getD k 0 = x := ⟨_, rfl⟩
      rw [hx] at c1
      rw [hy] at c2
      have ki : (k : Int) < (n : Int) := by omega
      have HXY := Lib.hid (And.intro hx hy)
      clear hb hac hac' hab hab' hx hy hall
      rcases Classical.em (x = y) with rfl | hxy
      · have kn := ne_self x
        go_wp2
        go_quiet (fail)
        go_wp2
        go_roundw
        case rel => exact ⟨k + 1, _, rfl, by omega, by go_num, fun j hj => by
          rcases Nat.lt_or_ge j k with h | h
          · exact HAL.out j h
          · obtain rfl : j = k := by omega
            rw [HXY.out.1, HXY.out.2], HB.out.drwN _⟩
        case measure => simp [intOf]; omega
      · have kn : (x != y) = true := by simpa using hxy
        go_wp2
        go_quiet (fail)
        go_wp2
        go_ret
        exact ⟨rfl, HB.out.drwN _⟩
    · obtain rfl : k = n := by omega
      exact absurd hall HDF.out
end Go.Proofs.YtpbnabibnkohdaaGreatDoor.Eu
namespace Go.Proofs.YtpbnabibnkohdaaGreatDoor.Ch
open Go.ChangeShapes Go.WideShapes Go.RowKit Wo Sr Wi Nr Ra Eu
set_option linter.unusedVariables false
set_option maxHeartbeats 8000000 in
set_option maxRecDepth 100000 in
theorem squares_ok (A A' : Option Addr) (c c' n : Nat) (L M : List Int) (n2 : n ≤ 32) (hs : Sam L) (ht : Sam M) (w : World) (h1 : Zi w A n L) (h2 : Zi w A' n M) :
    Calls Tryz.prog 53 #[.slice A n c, .slice A' n c', .int .i64 9223372036854775807] w fun e w' => e = .returned (.int .i64 (su sq (df L M))) ∧ Bel w w' := by
  have H1 := Lib.hid h1
  have H2 := Lib.hid h2
  have HS := Lib.hid hs
  have HT := Lib.hid ht
  have hlen : L.length = M.length := by rw [h1.1, h2.1]
  have hl := h1.1
  have HD : Hid (Bd 2000 (df L M)) := df_bd (A := 1000) (B := 1000) hs ht
  have i2 : (n : Int) ≤ 32 := by omega
  clear h1 h2 hs ht
  go_enter Tryz.func53, Tryz.ntmps53
  go_wp2
  go_step3
  go_wp2
  go_step3
  go_wp2
  go_loopw [7, 12] (fun s7 s12 wr => ∃ (t : Nat) (V : World) (s : Int), V = wr ∧ t ≤ n ∧ s12 = .int .i64 (t : Int) ∧ s7 = .int .i64 s ∧ s = su sq ((df L M).take t) ∧ Bel w wr) (fun _ s12 _ => n - (intOf s12).toNat)
  case atStart => exact ⟨0, _, 0, rfl, by omega, rfl, rfl, by simp [su], Bel.rf⟩
  case round =>
    obtain ⟨t, wr, s, hwr, ht, rfl, rfl, hs, hb⟩ := hrel
    subst hwr
    have HB := Lib.hid hb
    have HSV := Lib.hid hs
    rcases Nat.lt_or_ge t n with hlt | hge
    · obtain ⟨ad, rfl, _, hac⟩ := (H1.out.bel hb).2 (by omega)
      obtain ⟨ad', rfl, _, hac'⟩ := (H2.out.bel hb).2 (by omega)
      have c1 := hac t hlt
      have c2 := hac' t hlt
      have hd := df_at hlen t (by omega)
      have hn := su_next sq (df L M) t (by rw [df_len hlen]; omega)
      have hbd := susq_bd (HD.out.take t)
      have hbd2 := susq_bd (HD.out.take (t + 1))
      have tl : (((df L M).take t).length : Int) ≤ 32 ∧ (((df L M).take (t + 1)).length : Int) ≤ 32 := by
        have := List.length_take_le t (df L M)
        have := List.length_take_le (t + 1) (df L M)
        omega
      have px := HS.out.at t
      have py := HT.out.at t
      obtain ⟨x, hx⟩ : ∃ x, L.getD t 0 = x := ⟨_, rfl⟩
      obtain ⟨y, hy⟩ : ∃ y, M.getD t 0 = y := ⟨_, rfl⟩
      rw [hx] at c1 px hd
      rw [hy] at c2 py hd
      rw [hd] at hn
      rw [hn, ← hs] at hbd2
      rw [← hs] at hbd hn
      unfold sq at hn hbd2
      obtain ⟨x0, x1⟩ := px
      obtain ⟨y0, y1⟩ := py
      obtain ⟨d, hdd⟩ : ∃ d, x - y = d := ⟨_, rfl⟩
      rw [hdd] at hn hbd2
      have HN : Hid (s + d * d = su sq ((df L M).take (t + 1))) := hn.symm
      have s0 : 0 ≤ s ∧ s ≤ 128000000 ∧ 0 ≤ s + d * d ∧ s + d * d ≤ 128000000 := by
        obtain ⟨a, b⟩ := hbd
        obtain ⟨a2, b2⟩ := hbd2
        omega
      have dq := sq_nn d
      obtain ⟨s00, s01, s02, s03⟩ := s0
      have m1 : wrap64 (d * d) = d * d := IntWalk.wrap64_in _ (by omega)
      have m2 : IntKind.i64.wrap (d * d) = d * d := IntWalk.i64_in _ (by omega)
      have m3 : IntKind.i64.wrap (s + d * d) = s + d * d := IntWalk.i64_in _ (by omega)
      have m5 : IntKind.i64.wrap d = d := IntWalk.i64_in _ (by omega)
      have m6 : IntKind.i64.wrap (x - y) = d := by rw [hdd]; exact m5
      have bk : decide (9223372036854775807 < s + d * d) = false := decide_eq_false (by omega)
      have ti : (t : Int) < (n : Int) := by omega
      have HXY := Lib.hid (And.intro hx hy)
      clear hb hs hac hac' hd hbd hbd2 tl hx hy hn
      go_wp2
      go_quiet (fail)
      go_wp2
      go_roundw
      case rel => exact ⟨t + 1, _, _, rfl, by omega, by go_num, rfl, HN.out, by first | exact HB.out.drwN _ | exact HB.out.drw | exact HB.out⟩
      case measure => simp [intOf]; omega
    · obtain rfl : t = n := by omega
      have e : (df L M).take t = df L M := List.take_of_length_le (by rw [df_len hlen]; omega)
      rw [e] at hs
      clear hb
      go_wp2
      rw [Exit.noGoto_ret]
      go_ret
      exact ⟨ret_int hs, HB.out⟩
theorem distance_ok (A A' : Option Addr) (c c' n : Nat) (L M : List Int) (n1 : 2 ≤ n) (n2 : n ≤ 32) (hs : Sam L) (ht : Sam M) (w : World) (h1 : Zi w A n L) (h2 : Zi w A' n M) :
    Calls Tryz.prog 30 #[.slice A n c, .slice A' n c'] w fun e w' => e = .returned (.tuple #[.int .i64 (su sq (df L M)), .int .i64 0]) ∧ Bel w w' := by
  have HW : Hid (∀ W, Bel w W → _) := fun W hW => windows_ok A A' c c' n L M n1 n2 hs ht W (h1.bel hW) (h2.bel hW)
  have HQ : Hid (∀ W, Bel w W → _) := fun W hW => squares_ok A A' c c' n L M n2 hs ht W (h1.bel hW) (h2.bel hW)
  clear h1 h2 hs ht
  go_enter Tryz.func30, Tryz.ntmps30
  go_wp2_with fail
  go_at_call 52
  refine (HW.out _ Bel.rf).mono ?_
  rintro e w1 ⟨rfl, hb1⟩
  have HB1 := Lib.hid hb1
  clear hb1
  go_wp2_with (go_at_call 53; refine (HQ.out _ HB1.out).mono ?_; rintro e w2 ⟨rfl, hb2⟩)
  go_ret2
  exact ⟨rfl, HB1.out.tr hb2⟩
/-- the sum of the squares over the first channels -/
def es (Ls Ms : Nat → List Int) : Nat → Int
  | 0 => 0
  | c + 1 => es Ls Ms c + su sq (df (Ls c) (Ms c))
set_option maxHeartbeats 8000000 in
set_option maxRecDepth 100000 in
theorem euclid_ok (g1 g2 q n c1 c2 : Nat) (As Bs : Nat → Option Addr) (cs ds : Nat → Nat) (Ls Ms : Nat → List Int) (q1 : 1 ≤ q) (q4 : q ≤ 4) (n2 : 2 ≤ n) (n32 : n ≤ 32) (hE : ∀ t, t ≤ q → 0 ≤ es Ls Ms t ∧ es Ls Ms t ≤ 2000000000) (w : World) (hX : Bun w g1 q n As cs Ls) (hY : Bun w g2 q n Bs ds Ms) :
    Calls Tryz.prog 11 #[.slice (some ⟨g1, 0, none⟩) q c1, .slice (some ⟨g2, 0, none⟩) q c2] w fun e w' => e = .returned (.tuple #[.int .i64 (es Ls Ms q), .int .i64 0]) ∧ Bel w w' := by
  have HX := Lib.hid hX
  have HY := Lib.hid hY
  have HEE := Lib.hid hE
  have i4 : (q : Int) ≤ 4 := by omega
  have HQ := Lib.hid (And.intro n2 n32)
  have CK := Lib.hid (check_ok g1 g2 q n n c1 c2 As Bs cs ds Ls Ms 0 q1 q4 n2 n32 n2 n32 (by omega) (by omega) w hX hY)
  clear hX hY hE n2 n32
  go_enter Tryz.func11, Tryz.ntmps11
  go_wp2_with fail
  go_at_call 29
  refine CK.out.mono ?_
  rintro e w1 ⟨rfl, hb⟩
  have HB1 : Hid (Bel w w1) := hb
  clear hb CK
  go_wp2
  go_loopw [7, 19] (fun s7 s19 wr => ∃ (t : Nat) (V : World), V = wr ∧ t ≤ q ∧ s7 = .int .i64 (es Ls Ms t) ∧ s19 = .int .i64 (t : Int) ∧ Bel w wr) (fun _ s19 _ => q - (intOf s19).toNat)
  case atStart => exact ⟨0, _, rfl, by omega, rfl, rfl, HB1.out⟩
  case round =>
    obtain ⟨t, wr, hwr, ht, rfl, rfl, hb⟩ := hrel
    subst hwr
    have HB := Lib.hid hb
    clear hb
    rcases Nat.lt_or_ge t q with hlt | hge
    · have ti : (t : Int) < (q : Int) := by omega
      obtain ⟨k1, z1, s1⟩ := (HX.out.bel HB.out).2 t hlt
      obtain ⟨k2, z2, s2⟩ := (HY.out.bel HB.out).2 t hlt
      have DI : Hid (∀ W, Bel wr W → Calls Tryz.prog 30 #[.slice (As t) n (cs t), .slice (Bs t) n (ds t)] W fun e w' => e = .returned (.tuple #[.int .i64 (su sq (df (Ls t) (Ms t))), .int .i64 0]) ∧ Bel W w') := fun W h =>
        distance_ok (As t) (Bs t) (cs t) (ds t) n (Ls t) (Ms t) HQ.out.1 HQ.out.2 s1 s2 W (z1.bel h) (z2.bel h)
      have HF : Hid (es Ls Ms (t + 1) = es Ls Ms t + su sq (df (Ls t) (Ms t))) := rfl
      have f2 := HEE.out (t + 1) hlt
      rw [HF.out] at f2
      obtain ⟨u, hu⟩ : ∃ u, su sq (df (Ls t) (Ms t)) = u := ⟨_, rfl⟩
      rw [hu] at HF f2 DI
      obtain ⟨v, hv⟩ : ∃ v, es Ls Ms t = v := ⟨_, rfl⟩
      rw [hv] at HF f2 ⊢
      have wv : IntKind.i64.wrap (v + u) = v + u := IntWalk.i64_in _ ⟨by omega, by omega⟩
      have KS : Hid (∀ W', Bel wr W' → ((fun w' => w'.cell? ⟨g1, t, none⟩ = some (.slice (As t) n (cs t)) ∧ w'.cell? ⟨g2, t, none⟩ = some (.slice (Bs t) n (ds t))) W')) := fun W' h => ⟨h.kp k1, h.kp k2⟩
      clear k1 k2 z1 z2 s1 s2 f2 hu hv
      go_wp2_with fail
      go_region_held3 (fun w' => w'.cell? ⟨g1, t, none⟩ = some (.slice (As t) n (cs t)) ∧ w'.cell? ⟨g2, t, none⟩ = some (.slice (Bs t) n (ds t)))
        (exact KS.out _ (by repeat (first | exact Bel.rf | (with_reducible refine Bel.drwN ?_ _) | (with_reducible refine Bel.drw ?_) | (refine Bel.tr ?_ (by assumption)))))
        ((go_at_call 30; refine (DI.out _ (by repeat (first | exact Bel.rf | (with_reducible refine Bel.drwN ?_ _) | (with_reducible refine Bel.drw ?_) | (refine Bel.tr ?_ (by assumption))))).mono ?_; rintro r s4 ⟨rfl, h4⟩))
      all_goals
        have HB4 : Hid (Bel w s4) := HB.out.tr (by repeat (first | exact Bel.rf | (with_reducible refine Bel.drwN ?_ _) | (with_reducible refine Bel.drw ?_) | (refine Bel.tr ?_ (by assumption))))
        go_wp2
        go_roundw
        case rel => exact ⟨t + 1, _, rfl, by omega, by rw [HF.out], by go_num, by first | exact HB4.out | exact HB4.out.drw | exact HB4.out.drwN _⟩
        case measure => simp [intOf]; omega
    · obtain rfl : t = q := by omega
      go_wp2
      exact bodyPost_ret (v := .tuple #[.int .i64 (es Ls Ms t), .int .i64 0]) (by simp [results, Tryz.results11, go_sem]) rfl ⟨rfl, HB.out⟩
end Go.Proofs.YtpbnabibnkohdaaGreatDoor.Ch
namespace Go.Proofs.YtpbnabibnkohdaaGreatDoor.Ch
open Go.ChangeShapes Go.WideShapes Go.RowKit Wo Sr Wi Nr
set_option linter.unusedVariables false
set_option maxHeartbeats 16000000 in
set_option maxRecDepth 100000 in
theorem least_together (n m : Nat) (b : Int) (f : Nat → Nat → Int) (n1 : 1 ≤ n) (n2 : n ≤ 33) (m1 : 1 ≤ m) (m2 : m ≤ 33) (b0 : 0 ≤ b) (b32 : b ≤ 32) (hf : Fb f) (z1 z2 : Value) (w : World)
    (HC : ∀ W, Bel w W → ∀ i j : Nat, i < n → j < m → Calls Tryz.prog 28 #[.int .i64 (i : Int), .int .i64 (j : Int), z1, z2] W fun e W' => e = .returned (.int .i64 (f i j)) ∧ Bel W W') :
    Calls Tryz.prog 27 #[.agg #[.int .i64 (n : Int), .int .i64 (m : Int), .int .i64 b, .func (.func 28) #[] #[z1, z2]]] w fun e w' => e = .returned (.int .i64 (wg f b n m)) ∧ Bel w w' := by
  have HCC := Lib.hid HC
  have i1 : 1 ≤ (n : Int) := by omega
  have i2 : (n : Int) ≤ 33 := by omega
  have i3 : 1 ≤ (m : Int) := by omega
  have i4 : (m : Int) ≤ 33 := by omega
  have HE : Hid (∀ i j, i ≤ 64 → j ≤ 64 → 0 ≤ wg f b i j ∧ wg f b i j ≤ 4611686018427387904) := fun i j hi hj => ⟨wg_nn hf i j, wg_hi hf b0 i j hi hj⟩
  have HFB := Lib.hid hf
  have HBO : Hid (∀ W, _) := fun W => border_ok n m b 28 #[z1, z2] (by omega) W
  clear HC hf
  go_enter Tryz.func27, Tryz.ntmps27
  go_upto_region 1 with fail
  have HW0 : Hid (Bk (w.alloc (.cells #[.int .i64 (n : Int), .int .i64 (m : Int), .int .i64 b, .func (.func 28) #[] #[z1, z2]] 56)) w.heap.size 56 #[.int .i64 (n : Int), .int .i64 (m : Int), .int .i64 b, .func (.func 28) #[] #[z1, z2]]) := Bk.nw _ _ _
  have HWB : Hid (Bel w (w.alloc (.cells #[.int .i64 (n : Int), .int .i64 (m : Int), .int .i64 b, .func (.func 28) #[] #[z1, z2]] 56))) := Bel.rf.al _
  go_cut [3, 4] (fun s3 s4 wx => ∃ (p q : Nat) (W : World), W = wx ∧ s3 = .slice (some ⟨p, 0, none⟩) (m + 1) (m + 1) ∧ s4 = .slice (some ⟨q, 0, none⟩) (m + 1) (m + 1) ∧ Tab w wx p q m (List.replicate (m + 1) far) (List.replicate (m + 1) far) #[.int .i64 (n : Int), .int .i64 (m : Int), .int .i64 b, .func (.func 28) #[] #[z1, z2]])
  case first =>
    have k0 := HW0.out.cell 0
    have k1 := HW0.out.cell 1
    have k2 := HW0.out.cell 2
    have k3 := HW0.out.cell 3
    have KS : Hid (∀ W', Bel (w.alloc (.cells #[.int .i64 (n : Int), .int .i64 (m : Int), .int .i64 b, .func (.func 28) #[] #[z1, z2]] 56)) W' → ((fun w' => w'.cell? ⟨w.heap.size, 0, none⟩ = some (.int .i64 (n : Int)) ∧ w'.cell? ⟨w.heap.size, 1, none⟩ = some (.int .i64 (m : Int)) ∧ w'.cell? ⟨w.heap.size, 2, none⟩ = some (.int .i64 b) ∧ w'.cell? ⟨w.heap.size, 3, none⟩ = some (.func (.func 28) #[] #[z1, z2])) W')) := fun W' h => ⟨h.kp k0, h.kp k1, h.kp k2, h.kp k3⟩
    have M1 : True := trivial
    clear k0 k1 k2 k3
    go_region_held3 (fun w' => w'.cell? ⟨w.heap.size, 0, none⟩ = some (.int .i64 (n : Int)) ∧ w'.cell? ⟨w.heap.size, 1, none⟩ = some (.int .i64 (m : Int)) ∧ w'.cell? ⟨w.heap.size, 2, none⟩ = some (.int .i64 b) ∧ w'.cell? ⟨w.heap.size, 3, none⟩ = some (.func (.func 28) #[] #[z1, z2]))
      (exact KS.out _ (by repeat (first | exact Bel.rf | (with_reducible refine Bel.drwN ?_ _) | (with_reducible refine Bel.drw ?_) | (refine Bel.tr ?_ (by assumption)))))
      (first
        | (go_at_call 46; clear M1; refine (HBO.out _).mono ?_; rintro r s1 ⟨p, rfl, hp1, hp2, hp3, hp4⟩)
        | (go_at_call 46; refine (HBO.out _).mono ?_; rintro r s2 ⟨q, rfl, hq1, hq2, hq3, hq4⟩))
    all_goals
      go_wp2_with fail
      go_meet
      have hz : (w.alloc (.cells #[.int .i64 (n : Int), .int .i64 (m : Int), .int .i64 b, .func (.func 28) #[] #[z1, z2]] 56)).heap.size = w.heap.size + 1 := World.size_alloc _ _
      have g1 : (w.alloc (.cells #[.int .i64 (n : Int), .int .i64 (m : Int), .int .i64 b, .func (.func 28) #[] #[z1, z2]] 56)).heap.size ≤ p := hp1
      have g2 : p < q := by have := hq1; have h3 := hp2; first | exact Nat.lt_of_lt_of_le h3 this | omega
      have hp5 := (Bel.drw Bel.rf).tr hp4
      have T : Tab w s2 p q m (List.replicate (m + 1) far) (List.replicate (m + 1) far) #[.int .i64 (n : Int), .int .i64 (m : Int), .int .i64 b, .func (.func 28) #[] #[z1, z2]] := ⟨by omega, by omega, by omega, hp3.bel hq4, hq3, by simp, (HW0.out.bel hp5).bel hq4, (HWB.out.tr hp5).tr hq4⟩
      first
        | exact ⟨p, q, _, rfl, rfl, rfl, T⟩
        | exact ⟨q, p, _, rfl, rfl, rfl, T.sw (by simp)⟩
  case rest =>
    obtain ⟨p, q, wx, hwx, rfl, rfl, hT⟩ := hcut
    subst hwx
    have HT := Lib.hid hT
    have c0 := bk_sz hT.2.2.2.1 (m := m) (t := 0) (by simp) (by omega)
    have f0 := hT.2.2.2.1.fr 0
    have hK0 := (hT.sw (by simp)).st 0 0
    have HT0 : Hid (Tab w (wx.setCell ⟨p, 0, none⟩ (.int .i64 0)) p q m ((List.replicate (m + 1) far).set 0 0) (List.replicate (m + 1) far) #[.int .i64 (n : Int), .int .i64 (m : Int), .int .i64 b, .func (.func 28) #[] #[z1, z2]]) := hK0.sw (by simp)
    have d0 := HT0.out.2.2.2.2.2.2.1.cell 0
    have HRG : Hid (Rg f b 0 m ((List.replicate (m + 1) far).set 0 0)) := ⟨by simp, fun t ht => by
      rw [set_at]
      rcases t with _ | t
      · rw [if_pos (by simp), wg_00]
      · rw [if_neg (by simp), wg_0s, List.getD_eq_getElem?_getD, List.getElem?_replicate, if_pos (by omega)]; rfl⟩
    have mk1 : (0 : Int) < ((m + 1 : Nat) : Int) := by omega
    have mk2 : 0 < m + 1 := by omega
    clear hT hK0 HT HW0 HWB
    go_wp2
    go_loopw [3, 4, 15] (fun s3 s4 s15 wr => ∃ (i : Nat) (V : World) (p q : Nat) (Zp Zq : List Int), V = wr ∧ i ≤ n ∧ s3 = .slice (some ⟨p, 0, none⟩) (m + 1) (m + 1) ∧ s4 = .slice (some ⟨q, 0, none⟩) (m + 1) (m + 1) ∧ s15 = .int .i64 (i : Int) ∧ Rg f b i m Zp ∧ Tab w wr p q m Zp Zq #[.int .i64 (n : Int), .int .i64 (m : Int), .int .i64 b, .func (.func 28) #[] #[z1, z2]]) (fun _ _ s15 _ => n - (intOf s15).toNat)
    case atStart => exact ⟨0, _, p, q, _, _, rfl, by omega, rfl, rfl, rfl, HRG.out, HT0.out⟩
    case round =>
      clear HRG HT0 c0 f0 d0
      obtain ⟨i, wr, p, q, Zp, Zq, hwr, hin, rfl, rfl, rfl, hrp, hT⟩ := hrel
      subst hwr
      have HRP := Lib.hid hrp
      rcases Nat.lt_or_ge i n with hlt | hge
      · have ini : (i : Int) < (n : Int) := by omega
        have q0 := hT.2.2.2.2.1.fr 0
        have cq := bk_sz hT.2.2.2.2.1 hT.2.2.2.2.2.1 (t := 0) (by omega)
        have HT1 := Lib.hid (hT.st 0 4611686018427387904)
        have HZ1 : Hid (∀ t, t ≤ 0 → (Zq.set 0 4611686018427387904).getD t 0 = wg f b (i + 1) t) := fun t ht => by
          obtain rfl : t = 0 := by omega
          rw [set_at, if_pos ⟨rfl, by have := hT.2.2.2.2.2.1; omega⟩, wg_s0]; rfl
        have d1 := HT1.out.2.2.2.2.2.2.1.cell 1
        clear hT hrp
        go_wp2
        go_loopw [22] (fun s22 wy => ∃ (j : Nat) (V : World) (Z : List Int), V = wy ∧ j ≤ m ∧ s22 = .int .i64 (j : Int) ∧ (∀ t, t ≤ j → Z.getD t 0 = wg f b (i + 1) t) ∧ Tab w wy p q m Zp Z #[.int .i64 (n : Int), .int .i64 (m : Int), .int .i64 b, .func (.func 28) #[] #[z1, z2]]) (fun s22 _ => m - (intOf s22).toNat)
        case atStart => exact ⟨0, _, _, rfl, by omega, rfl, HZ1.out, HT1.out⟩
        case round =>
          clear HZ1 HT1 cq q0 d1
          obtain ⟨j, wy, Z, hwr, hjm, rfl, hzt, hT⟩ := hrel
          subst hwr
          have HZT := Lib.hid hzt
          rcases Nat.lt_or_ge j m with hlt2 | hge2
          · obtain ⟨j', hj'⟩ : ∃ j', j + 1 = j' := ⟨_, rfl⟩
            have hji : (j : Int) + 1 = (j' : Int) := by omega
            have j'm : j' ≤ m := by omega
            have j'k : j' < m + 1 := by omega
            have j'i : (j' : Int) < (m : Int) + 1 := by omega
            have j'i2 : (j' : Int) < ((m + 1 : Nat) : Int) := by omega
            have jk : j < m + 1 := by omega
            have jki : (j : Int) < (m : Int) + 1 := by omega
            have jki2 : (j : Int) < ((m + 1 : Nat) : Int) := by omega
            have ji : (j : Int) < (m : Int) := by omega
            have zj : -9223372036854775808 ≤ (j' : Int) ∧ (j' : Int) ≤ 9223372036854775807 := by omega
            have cz := bk_sz hT.2.2.2.2.1 hT.2.2.2.2.2.1 (t := j') (by omega)
            have fz := hT.2.2.2.2.1.fr j'
            obtain ⟨zz, hzz⟩ : ∃ z, Z.getD j' 0 = z := ⟨_, rfl⟩
            rw [hzz] at cz
            obtain ⟨e0, he0⟩ : ∃ d, (i : Int) - (j : Int) = d := ⟨_, rfl⟩
            have zd : -9223372036854775808 ≤ e0 ∧ e0 ≤ 9223372036854775807 := by omega
            have HAB : Hid (∀ W, _) := fun W => abs_eq e0 (by omega) (by omega) W
            have HBD : Hid (ab e0 ≤ b ↔ Bnd b i j) := by
              show _ ↔ _
              unfold ab Bnd
              split <;> constructor <;> intro h <;> (try constructor) <;> omega
            obtain ⟨r0, hr0⟩ : ∃ r, ab e0 = r := ⟨_, rfl⟩
            rw [hr0] at HAB HBD
            have hnn := hT.2.2.2.2.2.1
            have HS1 := Lib.hid (hT.st j' 4611686018427387904)
            have d2 := HS1.out.2.2.2.2.2.2.1.cell 2
            have HIJ := Lib.hid (And.intro hj' hnn)
            have wj2 : IntKind.i64.wrap (j' : Int) = (j' : Int) := IntWalk.i64_in _ zj
            have wd2 : IntKind.i64.wrap e0 = e0 := IntWalk.i64_in _ zd
            clear hT hzt hj' hzz hr0 zj zd hnn
            go_wp2_with fail
            go_quiet ((go_at_call_of 47 (Value.int IntKind.i64 e0); exact Calls.quiet_of_same (HAB.out _)))
            rcases Int.lt_or_le b r0 with hout | hinn
            · have HZ2 : Hid (∀ t, t ≤ j' → (Z.set j' 4611686018427387904).getD t 0 = wg f b (i + 1) t) := fun t ht => by
                rw [set_at]
                rcases Nat.lt_or_ge t j' with h | h
                · rw [if_neg (by omega)]; exact HZT.out t (by have := HIJ.out.1; omega)
                · obtain rfl : t = j' := by omega
                  rw [if_pos ⟨rfl, by have := HIJ.out.2; omega⟩, ← HIJ.out.1, wg_out _ _ _ _ (fun h => by have := HBD.out.2 h; omega)]; rfl
              have hno : ¬ r0 ≤ b := by omega
              go_wp2
              go_roundw
              case rel => exact ⟨j', _, _, rfl, j'm, by first | rfl | go_num, HZ2.out, by first | exact HS1.out | exact HS1.out.bel (Bel.drwN Bel.rf _) | exact HS1.out.bel (Bel.drw Bel.rf)⟩
              case measure => simp [intOf]; omega
            · have ee := wg_in f b i j (HBD.out.1 hinn)
              have b1 := HE.out i j (by omega) (by omega)
              have b2 := HE.out i j' (by omega) (by omega)
              have b3 := HE.out (i + 1) j (by omega) (by omega)
              have b4 := HFB.out i j
              rw [HIJ.out.1] at ee
              obtain ⟨a0, ha0⟩ : ∃ v, wg f b i j = v := ⟨_, rfl⟩
              obtain ⟨h0, hh0⟩ : ∃ v, wg f b i j' = v := ⟨_, rfl⟩
              obtain ⟨g0, hg0⟩ : ∃ v, wg f b (i + 1) j = v := ⟨_, rfl⟩
              obtain ⟨r1, hr1⟩ : ∃ v, f i j = v := ⟨_, rfl⟩
              rw [ha0] at b1 ee
              rw [hh0] at b2 ee
              rw [hg0] at b3 ee
              rw [hr1] at b4 ee
              have k1 := bk_sz HS1.out.2.2.2.1 HRP.out.1 (t := j) (by omega)
              have k2 := bk_sz HS1.out.2.2.2.1 HRP.out.1 (t := j') j'm
              have k3 := bk_sz HS1.out.2.2.2.2.1 HS1.out.2.2.2.2.2.1 (t := j) (by omega)
              have k4 := HS1.out.2.2.2.2.2.2.1.cell 3
              rw [HRP.out.2 j (by omega), ha0] at k1
              rw [HRP.out.2 j' j'm, hh0] at k2
              rw [set_at, if_neg (by have := HIJ.out.1; omega), HZT.out j (Nat.le_refl _), hg0] at k3
              have hmn := mn3_if a0 h0 g0
              have hcase : (h0 < a0 ∧ g0 < h0 ∧ mn3 a0 h0 g0 = g0) ∨ (h0 < a0 ∧ h0 ≤ g0 ∧ mn3 a0 h0 g0 = h0) ∨ (a0 ≤ h0 ∧ g0 < a0 ∧ mn3 a0 h0 g0 = g0) ∨ (a0 ≤ h0 ∧ a0 ≤ g0 ∧ mn3 a0 h0 g0 = a0) := by
                rw [hmn]
                (repeat' split) <;> omega
              have hne : j ≠ j' := by have := HIJ.out.1; omega
              have hpq := HS1.out.1
              have hBq : w.heap.size ≠ q := by have := HS1.out.2.2.1; omega
              have f3 := HS1.out.2.2.2.2.1.fr j'
              have k5 := bk_sz HS1.out.2.2.2.2.1 HS1.out.2.2.2.2.2.1 (t := j') j'm
              obtain ⟨zy, hzy⟩ : ∃ v, (Z.set j' 4611686018427387904).getD j' 0 = v := ⟨_, rfl⟩
              rw [hzy] at k5
              have KS : Hid (∀ W', Bel (wy.setCell ⟨q, j', none⟩ (.int .i64 4611686018427387904)) W' → W'.cell? ⟨w.heap.size, 3, none⟩ = some (.func (.func 28) #[] #[z1, z2]) ∧ W'.cell? ⟨p, j, none⟩ = some (.int .i64 a0) ∧ W'.cell? ⟨p, j', none⟩ = some (.int .i64 h0) ∧ W'.cell? ⟨q, j, none⟩ = some (.int .i64 g0)) := fun W' h => ⟨h.kp k4, h.kp k1, h.kp k2, h.kp k3⟩
              have CC : Hid (∀ W, Bel (wy.setCell ⟨q, j', none⟩ (.int .i64 4611686018427387904)) W → Calls Tryz.prog 28 #[.int .i64 (i : Int), .int .i64 (j : Int), z1, z2] W fun e W' => e = .returned (.int .i64 r1) ∧ Bel W W') := fun W h => by
                rw [← hr1]
                exact HCC.out W (HS1.out.2.2.2.2.2.2.2.tr h) i j hlt hlt2
              have hql := HS1.out.2.2.2.2.1.lt
              have KZ : Hid (∀ W', Bel (wy.setCell ⟨q, j', none⟩ (.int .i64 4611686018427387904)) W' → W'.cell? ⟨q, j', none⟩ = some (.int .i64 zy) ∧ W'.frozen? ⟨q, j', none⟩ = false) := fun W' h => ⟨h.kp k5, (h.cells.2 q j' hql).trans f3⟩
              clear ha0 hh0 hg0 hr1 hmn k1 k2 k3 k4 k5 f3 hql hzy cz fz d2
              rcases hcase with ⟨l1, l2, l3⟩ | ⟨l1, l2, l3⟩ | ⟨l1, l2, l3⟩ | ⟨l1, l2, l3⟩
              · rw [l3] at ee
                have HEQ := Lib.hid ee
                have z2b : -9223372036854775808 ≤ r1 + g0 ∧ r1 + g0 ≤ 9223372036854775807 := by omega
                have HZ2 : Hid (∀ t, t ≤ j' → ((Z.set j' 4611686018427387904).set j' (r1 + g0)).getD t 0 = wg f b (i + 1) t) := fun t ht => by
                  rw [set_at, set_at, List.length_set]
                  rcases Nat.lt_or_ge t j' with h | h
                  · rw [if_neg (by omega), if_neg (by omega)]; exact HZT.out t (by have := HIJ.out.1; omega)
                  · obtain rfl : t = j' := by omega
                    rw [if_pos ⟨rfl, by have := HIJ.out.2; omega⟩]
                    exact HEQ.out.symm
                have w2 : IntKind.i64.wrap (r1 + g0) = r1 + g0 := IntWalk.i64_in _ z2b
                have o1 : (g0 < h0) = True := eq_true l2
                clear ee b1 b2 b3 b4 z2b l3
                go_wp2_with fail
                go_region_held3 (fun w' => w'.cell? ⟨w.heap.size, 3, none⟩ = some (.func (.func 28) #[] #[z1, z2]) ∧ w'.cell? ⟨p, j, none⟩ = some (.int .i64 a0) ∧ w'.cell? ⟨p, j', none⟩ = some (.int .i64 h0) ∧ w'.cell? ⟨q, j, none⟩ = some (.int .i64 g0))
                  (first
                    | (refine KS.out _ ?_; (repeat (first | exact Bel.rf | (with_reducible refine Bel.drwN ?_ _) | (with_reducible refine Bel.drw ?_) | (refine Bel.tr ?_ (by assumption)))); done)
                    | (have hk := KS.out s4 (by repeat (first | exact Bel.rf | (with_reducible refine Bel.drwN ?_ _) | (with_reducible refine Bel.drw ?_) | (refine Bel.tr ?_ (by assumption)))); exact ⟨kp_fb hk.1 hBq _, kp_fb hk.2.1 hpq _, kp_fb hk.2.2.1 hpq _, kp_st hk.2.2.2 hne _⟩))
                  ((go_at_call 28; refine (CC.out _ (by repeat (first | exact Bel.rf | (with_reducible refine Bel.drwN ?_ _) | (with_reducible refine Bel.drw ?_) | (refine Bel.tr ?_ (by assumption))))).mono ?_; rintro r s4 ⟨rfl, h4⟩; obtain ⟨kz1, kz2⟩ := KZ.out s4 (by repeat (first | exact Bel.rf | (with_reducible refine Bel.drwN ?_ _) | (with_reducible refine Bel.drw ?_) | (refine Bel.tr ?_ (by assumption))))))
                all_goals
                  have HS3 := Lib.hid ((HS1.out.bel (show Bel _ s4 by repeat (first | exact Bel.rf | (with_reducible refine Bel.drwN ?_ _) | (with_reducible refine Bel.drw ?_) | (refine Bel.tr ?_ (by assumption))))).st j' (r1 + g0))
                  go_wp2
                  go_roundw
                  case rel => exact ⟨j', _, _, rfl, j'm, by first | rfl | go_num, HZ2.out, by first | exact HS3.out | exact HS3.out.bel (Bel.drwN Bel.rf _) | exact HS3.out.bel (Bel.drw Bel.rf)⟩
                  case measure => simp [intOf]; omega
              · rw [l3] at ee
                have HEQ := Lib.hid ee
                have z2b : -9223372036854775808 ≤ r1 + h0 ∧ r1 + h0 ≤ 9223372036854775807 := by omega
                have HZ2 : Hid (∀ t, t ≤ j' → ((Z.set j' 4611686018427387904).set j' (r1 + h0)).getD t 0 = wg f b (i + 1) t) := fun t ht => by
                  rw [set_at, set_at, List.length_set]
                  rcases Nat.lt_or_ge t j' with h | h
                  · rw [if_neg (by omega), if_neg (by omega)]; exact HZT.out t (by have := HIJ.out.1; omega)
                  · obtain rfl : t = j' := by omega
                    rw [if_pos ⟨rfl, by have := HIJ.out.2; omega⟩]
                    exact HEQ.out.symm
                have w2 : IntKind.i64.wrap (r1 + h0) = r1 + h0 := IntWalk.i64_in _ z2b
                have o1 : (g0 < h0) = False := eq_false (by omega)
                clear ee b1 b2 b3 b4 z2b l3
                go_wp2_with fail
                go_region_held3 (fun w' => w'.cell? ⟨w.heap.size, 3, none⟩ = some (.func (.func 28) #[] #[z1, z2]) ∧ w'.cell? ⟨p, j, none⟩ = some (.int .i64 a0) ∧ w'.cell? ⟨p, j', none⟩ = some (.int .i64 h0) ∧ w'.cell? ⟨q, j, none⟩ = some (.int .i64 g0))
                  (first
                    | (refine KS.out _ ?_; (repeat (first | exact Bel.rf | (with_reducible refine Bel.drwN ?_ _) | (with_reducible refine Bel.drw ?_) | (refine Bel.tr ?_ (by assumption)))); done)
                    | (have hk := KS.out s4 (by repeat (first | exact Bel.rf | (with_reducible refine Bel.drwN ?_ _) | (with_reducible refine Bel.drw ?_) | (refine Bel.tr ?_ (by assumption)))); exact ⟨kp_fb hk.1 hBq _, kp_fb hk.2.1 hpq _, kp_fb hk.2.2.1 hpq _, kp_st hk.2.2.2 hne _⟩))
                  ((go_at_call 28; refine (CC.out _ (by repeat (first | exact Bel.rf | (with_reducible refine Bel.drwN ?_ _) | (with_reducible refine Bel.drw ?_) | (refine Bel.tr ?_ (by assumption))))).mono ?_; rintro r s4 ⟨rfl, h4⟩; obtain ⟨kz1, kz2⟩ := KZ.out s4 (by repeat (first | exact Bel.rf | (with_reducible refine Bel.drwN ?_ _) | (with_reducible refine Bel.drw ?_) | (refine Bel.tr ?_ (by assumption))))))
                all_goals
                  have HS3 := Lib.hid ((HS1.out.bel (show Bel _ s4 by repeat (first | exact Bel.rf | (with_reducible refine Bel.drwN ?_ _) | (with_reducible refine Bel.drw ?_) | (refine Bel.tr ?_ (by assumption))))).st j' (r1 + h0))
                  go_wp2
                  go_roundw
                  case rel => exact ⟨j', _, _, rfl, j'm, by first | rfl | go_num, HZ2.out, by first | exact HS3.out | exact HS3.out.bel (Bel.drwN Bel.rf _) | exact HS3.out.bel (Bel.drw Bel.rf)⟩
                  case measure => simp [intOf]; omega
              · rw [l3] at ee
                have HEQ := Lib.hid ee
                have z2b : -9223372036854775808 ≤ r1 + g0 ∧ r1 + g0 ≤ 9223372036854775807 := by omega
                have HZ2 : Hid (∀ t, t ≤ j' → ((Z.set j' 4611686018427387904).set j' (r1 + g0)).getD t 0 = wg f b (i + 1) t) := fun t ht => by
                  rw [set_at, set_at, List.length_set]
                  rcases Nat.lt_or_ge t j' with h | h
                  · rw [if_neg (by omega), if_neg (by omega)]; exact HZT.out t (by have := HIJ.out.1; omega)
                  · obtain rfl : t = j' := by omega
                    rw [if_pos ⟨rfl, by have := HIJ.out.2; omega⟩]
                    exact HEQ.out.symm
                have w2 : IntKind.i64.wrap (r1 + g0) = r1 + g0 := IntWalk.i64_in _ z2b
                have o1 : (h0 < a0) = False := eq_false (by omega)
                clear ee b1 b2 b3 b4 z2b l3
                go_wp2_with fail
                go_region_held3 (fun w' => w'.cell? ⟨w.heap.size, 3, none⟩ = some (.func (.func 28) #[] #[z1, z2]) ∧ w'.cell? ⟨p, j, none⟩ = some (.int .i64 a0) ∧ w'.cell? ⟨p, j', none⟩ = some (.int .i64 h0) ∧ w'.cell? ⟨q, j, none⟩ = some (.int .i64 g0))
                  (first
                    | (refine KS.out _ ?_; (repeat (first | exact Bel.rf | (with_reducible refine Bel.drwN ?_ _) | (with_reducible refine Bel.drw ?_) | (refine Bel.tr ?_ (by assumption)))); done)
                    | (have hk := KS.out s4 (by repeat (first | exact Bel.rf | (with_reducible refine Bel.drwN ?_ _) | (with_reducible refine Bel.drw ?_) | (refine Bel.tr ?_ (by assumption)))); exact ⟨kp_fb hk.1 hBq _, kp_fb hk.2.1 hpq _, kp_fb hk.2.2.1 hpq _, kp_st hk.2.2.2 hne _⟩))
                  ((go_at_call 28; refine (CC.out _ (by repeat (first | exact Bel.rf | (with_reducible refine Bel.drwN ?_ _) | (with_reducible refine Bel.drw ?_) | (refine Bel.tr ?_ (by assumption))))).mono ?_; rintro r s4 ⟨rfl, h4⟩; obtain ⟨kz1, kz2⟩ := KZ.out s4 (by repeat (first | exact Bel.rf | (with_reducible refine Bel.drwN ?_ _) | (with_reducible refine Bel.drw ?_) | (refine Bel.tr ?_ (by assumption))))))
                all_goals
                  have HS3 := Lib.hid ((HS1.out.bel (show Bel _ s4 by repeat (first | exact Bel.rf | (with_reducible refine Bel.drwN ?_ _) | (with_reducible refine Bel.drw ?_) | (refine Bel.tr ?_ (by assumption))))).st j' (r1 + g0))
                  go_wp2
                  go_roundw
                  case rel => exact ⟨j', _, _, rfl, j'm, by first | rfl | go_num, HZ2.out, by first | exact HS3.out | exact HS3.out.bel (Bel.drwN Bel.rf _) | exact HS3.out.bel (Bel.drw Bel.rf)⟩
                  case measure => simp [intOf]; omega
              · rw [l3] at ee
                have HEQ := Lib.hid ee
                have z2b : -9223372036854775808 ≤ r1 + a0 ∧ r1 + a0 ≤ 9223372036854775807 := by omega
                have HZ2 : Hid (∀ t, t ≤ j' → ((Z.set j' 4611686018427387904).set j' (r1 + a0)).getD t 0 = wg f b (i + 1) t) := fun t ht => by
                  rw [set_at, set_at, List.length_set]
                  rcases Nat.lt_or_ge t j' with h | h
                  · rw [if_neg (by omega), if_neg (by omega)]; exact HZT.out t (by have := HIJ.out.1; omega)
                  · obtain rfl : t = j' := by omega
                    rw [if_pos ⟨rfl, by have := HIJ.out.2; omega⟩]
                    exact HEQ.out.symm
                have w2 : IntKind.i64.wrap (r1 + a0) = r1 + a0 := IntWalk.i64_in _ z2b
                have o1 : (h0 < a0) = False := eq_false (by omega)
                have o2 : (g0 < a0) = False := eq_false (by omega)
                clear ee b1 b2 b3 b4 z2b l3
                go_wp2_with fail
                go_region_held3 (fun w' => w'.cell? ⟨w.heap.size, 3, none⟩ = some (.func (.func 28) #[] #[z1, z2]) ∧ w'.cell? ⟨p, j, none⟩ = some (.int .i64 a0) ∧ w'.cell? ⟨p, j', none⟩ = some (.int .i64 h0) ∧ w'.cell? ⟨q, j, none⟩ = some (.int .i64 g0))
                  (first
                    | (refine KS.out _ ?_; (repeat (first | exact Bel.rf | (with_reducible refine Bel.drwN ?_ _) | (with_reducible refine Bel.drw ?_) | (refine Bel.tr ?_ (by assumption)))); done)
                    | (have hk := KS.out s4 (by repeat (first | exact Bel.rf | (with_reducible refine Bel.drwN ?_ _) | (with_reducible refine Bel.drw ?_) | (refine Bel.tr ?_ (by assumption)))); exact ⟨kp_fb hk.1 hBq _, kp_fb hk.2.1 hpq _, kp_fb hk.2.2.1 hpq _, kp_st hk.2.2.2 hne _⟩))
                  ((go_at_call 28; refine (CC.out _ (by repeat (first | exact Bel.rf | (with_reducible refine Bel.drwN ?_ _) | (with_reducible refine Bel.drw ?_) | (refine Bel.tr ?_ (by assumption))))).mono ?_; rintro r s4 ⟨rfl, h4⟩; obtain ⟨kz1, kz2⟩ := KZ.out s4 (by repeat (first | exact Bel.rf | (with_reducible refine Bel.drwN ?_ _) | (with_reducible refine Bel.drw ?_) | (refine Bel.tr ?_ (by assumption))))))
                all_goals
                  have HS3 := Lib.hid ((HS1.out.bel (show Bel _ s4 by repeat (first | exact Bel.rf | (with_reducible refine Bel.drwN ?_ _) | (with_reducible refine Bel.drw ?_) | (refine Bel.tr ?_ (by assumption))))).st j' (r1 + a0))
                  go_wp2
                  go_roundw
                  case rel => exact ⟨j', _, _, rfl, j'm, by first | rfl | go_num, HZ2.out, by first | exact HS3.out | exact HS3.out.bel (Bel.drwN Bel.rf _) | exact HS3.out.bel (Bel.drw Bel.rf)⟩
                  case measure => simp [intOf]; omega
          · obtain rfl : j = m := by omega
            have HTT := Lib.hid hT
            have HRQ : Hid (Rg f b (i + 1) j Z) := ⟨hT.2.2.2.2.2.1, hzt⟩
            clear hT hzt
            go_wp2
            go_roundw
            case rel => exact ⟨i + 1, _, q, p, Z, Zp, rfl, by omega, rfl, rfl, by go_num, HRQ.out, HTT.out.sw HRP.out.1⟩
            case measure => simp [intOf]; omega
      · obtain rfl : i = n := by omega
        have HTT := Lib.hid hT
        have d1 := hT.2.2.2.2.2.2.1.cell 1
        have c1 := bk_sz hT.2.2.2.1 hrp.1 (t := m) (Nat.le_refl _)
        rw [hrp.2 m (Nat.le_refl _)] at c1
        have mk3 : (m : Int) < ((m + 1 : Nat) : Int) := by omega
        have mk4 : (m : Int) < (m : Int) + 1 := by omega
        clear hT hrp
        go_wp2
        go_ret
        exact ⟨rfl, HTT.out.2.2.2.2.2.2.2⟩
end Go.Proofs.YtpbnabibnkohdaaGreatDoor.Ch
