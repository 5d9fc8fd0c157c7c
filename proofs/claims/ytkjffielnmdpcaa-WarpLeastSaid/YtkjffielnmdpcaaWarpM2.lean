/- More plain facts about warping paths: paths from the front, the least cost of what is left, doubled windows, the way that Path takes. -/
import Derived.Test.YtkjffielnmdpcaaWarpMath
namespace Go.Proofs.Ytkjffielnmdpcaa.Wi
set_option linter.unusedVariables false
theorem Pq.front {X Y : List Int} {b : Int} {a c i j : Nat} {l : List (Nat × Nat)} {k : Int} (h : Pq X Y b a c l i j k) : (a = i ∧ c = j ∧ k = cst X Y i j ∧ Bnd b i j) ∨ ∃ p q l' k', Fol a c p q ∧ Bnd b a c ∧ Pq X Y b p q l' i j k' ∧ k = cst X Y a c + k' := by
  induction h with
  | one h => exact .inl ⟨rfl, rfl, rfl, h⟩
  | @snoc i j p q l k hp hf h ih =>
    rcases ih with ⟨rfl, rfl, rfl, hb⟩ | ⟨p', q', l', k', hf', hb', hp', hk⟩
    · exact .inr ⟨p, q, _, _, hf, hb, Pq.one p q h, rfl⟩
    · exact .inr ⟨p', q', _, _, hf', hb', Pq.snoc hp' hf h, by rw [hk]; omega⟩
theorem Pq.up {X Y : List Int} {b : Int} {a c i j : Nat} {l : List (Nat × Nat)} {k : Int} (h : Pq X Y b a c l i j k) : a ≤ i ∧ c ≤ j := by
  induction h with
  | one h => exact ⟨Nat.le_refl _, Nat.le_refl _⟩
  | @snoc i j p q l k hp hf h ih => rcases hf with ⟨h1, h2⟩ | ⟨h1, h2⟩ | ⟨h1, h2⟩ <;> omega
/-- the least cost of what is left, by trying every step -/
def wa (X Y : List Int) (b : Int) (n m i j : Nat) : Int :=
  if h : n ≤ i ∨ m ≤ j ∨ ¬ Bnd b i j then far else if i + 1 = n ∧ j + 1 = m then cst X Y i j else mn far (cst X Y i j + mn3 (wa X Y b n m (i + 1) (j + 1)) (wa X Y b n m (i + 1) j) (wa X Y b n m i (j + 1)))
termination_by (n - i) + (m - j)
decreasing_by
  all_goals
    have h1 : ¬ n ≤ i := fun e => h (.inl e)
    have h2 : ¬ m ≤ j := fun e => h (.inr (.inl e))
    omega
theorem wa_out {X Y : List Int} {b : Int} {n m i j : Nat} (h : n ≤ i ∨ m ≤ j ∨ ¬ Bnd b i j) : wa X Y b n m i j = far := by rw [wa, dif_pos h]
theorem wa_last {X Y : List Int} {b : Int} {n m i j : Nat} (hB : Bnd b i j) (hi : i + 1 = n) (hj : j + 1 = m) : wa X Y b n m i j = cst X Y i j := by
  rw [wa, dif_neg (by rintro (h | h | h); omega; omega; exact h hB), if_pos ⟨hi, hj⟩]
theorem wa_in {X Y : List Int} {b : Int} {n m i j : Nat} (hB : Bnd b i j) (hi : i < n) (hj : j < m) (hn : ¬ (i + 1 = n ∧ j + 1 = m)) : wa X Y b n m i j = mn far (cst X Y i j + mn3 (wa X Y b n m (i + 1) (j + 1)) (wa X Y b n m (i + 1) j) (wa X Y b n m i (j + 1))) := by
  rw [wa, dif_neg (by rintro (h | h | h); omega; omega; exact h hB), if_neg hn]
theorem wa_le {X Y : List Int} {b : Int} {n m : Nat} : ∀ (f i j : Nat) (l : List (Nat × Nat)) (k : Int), (n - i) + (m - j) = f → 1 ≤ n → 1 ≤ m → Pq X Y b i j l (n - 1) (m - 1) k → wa X Y b n m i j ≤ k := by
  intro f
  induction f using Nat.strongRecOn with
  | _ f ih =>
    intro i j l k hf hn hm h
    have hu := h.up
    rcases h.front with ⟨rfl, rfl, hk, hb⟩ | ⟨p, q, l', k', hF, hb, hp, hk⟩
    · rw [wa_last hb (by omega) (by omega), hk]; omega
    · have hv := hp.up
      have hne : ¬ (i + 1 = n ∧ j + 1 = m) := by rcases hF with ⟨h1, h2⟩ | ⟨h1, h2⟩ | ⟨h1, h2⟩ <;> omega
      have := ih ((n - p) + (m - q)) (by rcases hF with ⟨h1, h2⟩ | ⟨h1, h2⟩ | ⟨h1, h2⟩ <;> omega) p q l' k' rfl hn hm hp
      rw [wa_in hb (by omega) (by omega) hne]
      have h1 := mn_le_right far (cst X Y i j + mn3 (wa X Y b n m (i + 1) (j + 1)) (wa X Y b n m (i + 1) j) (wa X Y b n m i (j + 1)))
      have h2 := mn3_le (wa X Y b n m (i + 1) (j + 1)) (wa X Y b n m (i + 1) j) (wa X Y b n m i (j + 1))
      rcases hF with ⟨rfl, rfl⟩ | ⟨rfl, rfl⟩ | ⟨rfl, rfl⟩ <;> omega
theorem wa_path {X Y : List Int} {b : Int} {n m : Nat} (hs : Sam X) (ht : Sam Y) : ∀ (f i j : Nat), (n - i) + (m - j) = f → wa X Y b n m i j < far → ∃ l, Pq X Y b i j l (n - 1) (m - 1) (wa X Y b n m i j) := by
  intro f
  induction f using Nat.strongRecOn with
  | _ f ih =>
    intro i j hf hlt
    rcases Classical.em (n ≤ i ∨ m ≤ j ∨ ¬ Bnd b i j) with h | h
    · rw [wa_out h] at hlt; omega
    · have h1 : ¬ n ≤ i := fun e => h (.inl e)
      have h2 : ¬ m ≤ j := fun e => h (.inr (.inl e))
      have hB : Bnd b i j := Classical.byContradiction fun e => h (.inr (.inr e))
      have hc := (cst_in hs ht i j).1
      rcases Classical.em (i + 1 = n ∧ j + 1 = m) with he | he
      · rw [wa_last hB he.1 he.2]
        obtain ⟨rfl, rfl⟩ := he
        exact ⟨_, Pq.one _ _ hB⟩
      · have e := wa_in (X := X) (Y := Y) hB (by omega) (by omega) he
        have e2 : wa X Y b n m i j = cst X Y i j + mn3 (wa X Y b n m (i + 1) (j + 1)) (wa X Y b n m (i + 1) j) (wa X Y b n m i (j + 1)) := by
          rcases mn_or far (cst X Y i j + mn3 (wa X Y b n m (i + 1) (j + 1)) (wa X Y b n m (i + 1) j) (wa X Y b n m i (j + 1))) with h | h <;> omega
        rw [e2]
        rcases mn3_or (wa X Y b n m (i + 1) (j + 1)) (wa X Y b n m (i + 1) j) (wa X Y b n m i (j + 1)) with h3 | h3 | h3
        all_goals
          rw [h3] at e2 ⊢
        · obtain ⟨l, hl⟩ := ih _ (by omega) (i + 1) (j + 1) rfl (by omega)
          exact ⟨_, Pq.cons (.inl ⟨rfl, rfl⟩) hB hl⟩
        · obtain ⟨l, hl⟩ := ih _ (by omega) (i + 1) j rfl (by omega)
          exact ⟨_, Pq.cons (.inr (.inl ⟨rfl, rfl⟩)) hB hl⟩
        · obtain ⟨l, hl⟩ := ih _ (by omega) i (j + 1) rfl (by omega)
          exact ⟨_, Pq.cons (.inr (.inr ⟨rfl, rfl⟩)) hB hl⟩
theorem wa_all {X Y : List Int} {b : Int} {n m : Nat} (hs : Sam X) (ht : Sam Y) (hb : 0 ≤ b) (n1 : 1 ≤ n) (m1 : 1 ≤ m) (n2 : n ≤ 60) (m2 : m ≤ 60) (hB : Bnd b (n - 1) (m - 1)) : wa X Y b n m 0 0 = wt X Y b n m := by
  obtain ⟨l, hl⟩ := wt_path hs ht hb _ (n - 1) (m - 1) rfl (by omega) (by omega) hB
  have h1 := wa_le _ 0 0 l _ rfl n1 m1 hl
  have h2 := wt_small hs ht hb (i := n - 1) (j := m - 1) (by omega) (by omega) hB
  obtain ⟨l', hl'⟩ := wa_path hs ht (b := b) (n := n) (m := m) _ 0 0 rfl (by omega)
  have h3 := wt_le hl'
  rw [show n - 1 + 1 = n by omega, show m - 1 + 1 = m by omega] at h1 h3
  omega
theorem wa_bd {X Y : List Int} {b : Int} {n m : Nat} (hs : Sam X) (ht : Sam Y) : ∀ (f i j : Nat), (n - i) + (m - j) = f → 0 ≤ wa X Y b n m i j ∧ wa X Y b n m i j ≤ far := by
  intro f
  induction f using Nat.strongRecOn with
  | _ f ih =>
    intro i j hf
    have f0 : 0 ≤ far := by decide
    rcases Classical.em (n ≤ i ∨ m ≤ j ∨ ¬ Bnd b i j) with h | h
    · rw [wa_out h]; omega
    · have h1 : ¬ n ≤ i := fun e => h (.inl e)
      have h2 : ¬ m ≤ j := fun e => h (.inr (.inl e))
      have hB : Bnd b i j := Classical.byContradiction fun e => h (.inr (.inr e))
      have hc := cst_in hs ht i j
      rcases Classical.em (i + 1 = n ∧ j + 1 = m) with he | he
      · rw [wa_last hB he.1 he.2]
        unfold far
        omega
      · rw [wa_in (X := X) (Y := Y) hB (by omega) (by omega) he]
        have b1 := ih _ (by omega) (i + 1) (j + 1) rfl
        have b2 := ih _ (by omega) (i + 1) j rfl
        have b3 := ih _ (by omega) i (j + 1) rfl
        have b4 := mn_le_left far (cst X Y i j + mn3 (wa X Y b n m (i + 1) (j + 1)) (wa X Y b n m (i + 1) j) (wa X Y b n m i (j + 1)))
        have b5 : 0 ≤ mn3 (wa X Y b n m (i + 1) (j + 1)) (wa X Y b n m (i + 1) j) (wa X Y b n m i (j + 1)) := mn_ge (mn_ge b1.1 b2.1) b3.1
        have b6 : 0 ≤ mn far (cst X Y i j + mn3 (wa X Y b n m (i + 1) (j + 1)) (wa X Y b n m (i + 1) j) (wa X Y b n m i (j + 1))) := mn_ge f0 (by omega)
        omega
/-- every sample twice -/
def dbl (X : List Int) : List Int := X.flatMap fun x => [x, x]
theorem dbl_nil : dbl [] = [] := rfl
theorem dbl_cons (x : Int) (X : List Int) : dbl (x :: X) = x :: x :: dbl X := rfl
theorem dbl_len (X : List Int) : (dbl X).length = 2 * X.length := by
  induction X with
  | nil => rfl
  | cons x X ih => rw [dbl_cons, List.length_cons, List.length_cons, List.length_cons, ih]; omega
theorem dbl_snoc (X : List Int) (x : Int) : dbl (X ++ [x]) = dbl X ++ [x, x] := by simp [dbl]
theorem dbl_at (X : List Int) (i : Nat) : (dbl X).getD (2 * i) 0 = X.getD i 0 ∧ (dbl X).getD (2 * i + 1) 0 = X.getD i 0 := by
  induction X generalizing i with
  | nil => simp [dbl]
  | cons x X ih =>
    rw [dbl_cons]
    rcases i with _ | i
    · exact ⟨rfl, rfl⟩
    · have := ih i
      rw [show 2 * (i + 1) = 2 * i + 1 + 1 by omega]
      simpa using this
theorem dbl_sam {X : List Int} (h : Sam X) : Sam (dbl X) := by
  intro x hx
  obtain ⟨y, hy, hm⟩ := List.mem_flatMap.1 hx
  have : x = y := by simpa using hm
  subst this
  exact h _ hy
theorem wt_dbl {X : List Int} (hs : Sam X) : ∀ i, i ≤ 16 → wt X (dbl X) 32 i (2 * i) = 0 := by
  intro i
  induction i with
  | zero => intro _; exact wt_00 _ _ _
  | succ i ih =>
    intro hi
    have h0 := ih (by omega)
    have B1 : Bnd 32 i (2 * i) := ⟨by omega, by omega⟩
    have B2 : Bnd 32 i (2 * i + 1) := ⟨by omega, by omega⟩
    have e1 := wt_in X (dbl X) 32 i (2 * i) B1
    have e2 := wt_in X (dbl X) 32 i (2 * i + 1) B2
    have c1 : cst X (dbl X) i (2 * i) = 0 := by unfold cst; rw [(dbl_at X i).1]; simp
    have c2 : cst X (dbl X) i (2 * i + 1) = 0 := by unfold cst; rw [(dbl_at X i).2]; simp
    have m1 := mn3_le (wt X (dbl X) 32 i (2 * i)) (wt X (dbl X) 32 i (2 * i + 1)) (wt X (dbl X) 32 (i + 1) (2 * i))
    have m2 := mn3_le (wt X (dbl X) 32 i (2 * i + 1)) (wt X (dbl X) 32 i (2 * i + 1 + 1)) (wt X (dbl X) 32 (i + 1) (2 * i + 1))
    have n1 := wt_nn (b := 32) hs (dbl_sam hs) (i + 1) (2 * i + 1 + 1)
    rw [show 2 * (i + 1) = 2 * i + 1 + 1 by omega]
    omega
/-- the way back from the last pair -/
def tr (X Y : List Int) (b : Int) (n m : Nat) : Nat → Nat × Nat
  | 0 => (n - 1, m - 1)
  | t + 1 => bk X Y b (tr X Y b n m t).1 (tr X Y b n m t).2
/-- the pairs of the way back -/
def trs (X Y : List Int) (b : Int) (n m T : Nat) : List (Nat × Nat) := (List.range (T + 1)).map (tr X Y b n m)
theorem trs_zero (X Y : List Int) (b : Int) (n m : Nat) : trs X Y b n m 0 = [(n - 1, m - 1)] := rfl
theorem trs_succ (X Y : List Int) (b : Int) (n m T : Nat) : trs X Y b n m (T + 1) = trs X Y b n m T ++ [tr X Y b n m (T + 1)] := by
  unfold trs
  rw [List.range_succ, List.map_append]; rfl
theorem trs_len (X Y : List Int) (b : Int) (n m T : Nat) : (trs X Y b n m T).length = T + 1 := by simp [trs]
theorem tr_bd {X Y : List Int} {b : Int} {n m : Nat} (hs : Sam X) (ht : Sam Y) (hb : 0 ≤ b) (n2 : n ≤ 60) (m2 : m ≤ 60) (hB : Bnd b (n - 1) (m - 1)) : ∀ t, (∀ u, u < t → tr X Y b n m u ≠ (0, 0)) → (tr X Y b n m t).1 ≤ n - 1 ∧ (tr X Y b n m t).2 ≤ m - 1 ∧ Bnd b (tr X Y b n m t).1 (tr X Y b n m t).2 ∧ t + (tr X Y b n m t).1 + (tr X Y b n m t).2 ≤ n - 1 + (m - 1) := by
  intro t
  induction t with
  | zero => intro _; exact ⟨Nat.le_refl _, Nat.le_refl _, hB, by show 0 + (n - 1) + (m - 1) ≤ _; omega⟩
  | succ t ih =>
    intro h
    obtain ⟨h1, h2, h3, h4⟩ := ih (fun u hu => h u (by omega))
    have h0 : 0 < (tr X Y b n m t).1 + (tr X Y b n m t).2 := by
      rcases Nat.eq_zero_or_pos ((tr X Y b n m t).1 + (tr X Y b n m t).2) with e | e
      · exact absurd (Prod.ext (by show _ = 0; omega) (by show _ = 0; omega)) (h t (by omega))
      · exact e
    obtain ⟨f, B, e⟩ := bk_ok hs ht hb (by omega) (by omega) h3 h0
    show (bk X Y b (tr X Y b n m t).1 (tr X Y b n m t).2).1 ≤ _ ∧ (bk X Y b (tr X Y b n m t).1 (tr X Y b n m t).2).2 ≤ _ ∧ Bnd b (bk X Y b (tr X Y b n m t).1 (tr X Y b n m t).2).1 (bk X Y b (tr X Y b n m t).1 (tr X Y b n m t).2).2 ∧ t + 1 + (bk X Y b (tr X Y b n m t).1 (tr X Y b n m t).2).1 + (bk X Y b (tr X Y b n m t).1 (tr X Y b n m t).2).2 ≤ _
    refine ⟨?_, ?_, B, ?_⟩ <;> (rcases f with ⟨h1, h2⟩ | ⟨h1, h2⟩ | ⟨h1, h2⟩ <;> omega)
/-- the way back, turned, is a path of the least cost -/
theorem tr_pq {X Y : List Int} {b : Int} {n m T : Nat} (hs : Sam X) (ht : Sam Y) (hb : 0 ≤ b) (n1 : 1 ≤ n) (m1 : 1 ≤ m) (n2 : n ≤ 60) (m2 : m ≤ 60) (hB : Bnd b (n - 1) (m - 1)) (hT : tr X Y b n m T = (0, 0)) (hne : ∀ u, u < T → tr X Y b n m u ≠ (0, 0)) : Pq X Y b 0 0 (trs X Y b n m T).reverse (n - 1) (m - 1) (wt X Y b n m) := by
  have key : ∀ t, t ≤ T → ∃ k, Pq X Y b (tr X Y b n m t).1 (tr X Y b n m t).2 (trs X Y b n m t).reverse (n - 1) (m - 1) k ∧ wt X Y b n m = k - cst X Y (tr X Y b n m t).1 (tr X Y b n m t).2 + wt X Y b ((tr X Y b n m t).1 + 1) ((tr X Y b n m t).2 + 1) := by
    intro t
    induction t with
    | zero =>
      intro _
      refine ⟨_, Pq.one (n - 1) (m - 1) hB, ?_⟩
      show _ = _ - cst X Y (n - 1) (m - 1) + wt X Y b (n - 1 + 1) (m - 1 + 1)
      rw [show n - 1 + 1 = n by omega, show m - 1 + 1 = m by omega]
      omega
    | succ t ih =>
      intro h
      obtain ⟨k, hk, e⟩ := ih (by omega)
      obtain ⟨h1, h2, h3, h4⟩ := tr_bd hs ht hb n2 m2 hB t (fun u hu => hne u (by omega))
      have h0 : 0 < (tr X Y b n m t).1 + (tr X Y b n m t).2 := by
        rcases Nat.eq_zero_or_pos ((tr X Y b n m t).1 + (tr X Y b n m t).2) with e | e
        · exact absurd (Prod.ext (by show _ = 0; omega) (by show _ = 0; omega)) (hne t (by omega))
        · exact e
      obtain ⟨f, B, e2⟩ := bk_ok hs ht hb (by omega) (by omega) h3 h0
      rw [trs_succ, List.reverse_append]
      refine ⟨_, Pq.cons f B hk, ?_⟩
      show _ = cst X Y (bk X Y b (tr X Y b n m t).1 (tr X Y b n m t).2).1 (bk X Y b (tr X Y b n m t).1 (tr X Y b n m t).2).2 + k - cst X Y (bk X Y b (tr X Y b n m t).1 (tr X Y b n m t).2).1 (bk X Y b (tr X Y b n m t).1 (tr X Y b n m t).2).2 + wt X Y b ((bk X Y b (tr X Y b n m t).1 (tr X Y b n m t).2).1 + 1) ((bk X Y b (tr X Y b n m t).1 (tr X Y b n m t).2).2 + 1)
      omega
  obtain ⟨k, hk, e⟩ := key T (Nat.le_refl _)
  rw [hT] at hk e
  have e1 : wt X Y b n m = k - cst X Y 0 0 + wt X Y b 1 1 := e
  rw [wt_one hb] at e1
  rw [show wt X Y b n m = k by omega]
  exact hk
end Go.Proofs.Ytkjffielnmdpcaa.Wi
