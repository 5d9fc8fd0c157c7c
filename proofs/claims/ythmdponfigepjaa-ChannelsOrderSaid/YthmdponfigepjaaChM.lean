/- Plain facts about least costs of paths for any cost of pairs, and for several channels (layer 16). -/
import Derived.Test.YthmdponfigepjaaWarpMath
namespace Go.Proofs.Ythmdponfigepjaa.Wi
set_option linter.unusedVariables false
/-- costs of pairs within bounds -/
def Fb (f : Nat → Nat → Int) : Prop := ∀ i j, 0 ≤ f i j ∧ f i j ≤ 20000000
/-- the least costs of the paths up to a pair, with a border -/
def wg (f : Nat → Nat → Int) (b : Int) : Nat → Nat → Int
  | 0, 0 => 0
  | 0, _ + 1 => far
  | _ + 1, 0 => far
  | i + 1, j + 1 => if Bnd b i j then f i j + mn3 (wg f b i j) (wg f b i (j + 1)) (wg f b (i + 1) j) else far
termination_by i j => (i, j)
theorem wg_00 (f : Nat → Nat → Int) (b : Int) : wg f b 0 0 = 0 := by rw [wg]
theorem wg_0s (f : Nat → Nat → Int) (b : Int) (j : Nat) : wg f b 0 (j + 1) = far := by rw [wg]
theorem wg_s0 (f : Nat → Nat → Int) (b : Int) (i : Nat) : wg f b (i + 1) 0 = far := by rw [wg]
theorem wg_in (f : Nat → Nat → Int) (b : Int) (i j : Nat) (h : Bnd b i j) : wg f b (i + 1) (j + 1) = f i j + mn3 (wg f b i j) (wg f b i (j + 1)) (wg f b (i + 1) j) := by rw [wg, if_pos h]
theorem wg_out (f : Nat → Nat → Int) (b : Int) (i j : Nat) (h : ¬ Bnd b i j) : wg f b (i + 1) (j + 1) = far := by rw [wg, if_neg h]
/-- every pair within the band is reached -/
theorem wg_fin {f : Nat → Nat → Int} {b : Int} (hf : Fb f) (hb : 0 ≤ b) : ∀ (n i j : Nat), i + j = n → Bnd b i j → 0 ≤ wg f b (i + 1) (j + 1) ∧ wg f b (i + 1) (j + 1) ≤ 20000000 * ((n : Int) + 1) := by
  have nn : ∀ (n i j : Nat), i + j = n → 0 ≤ wg f b i j := by
    intro n
    induction n using Nat.strongRecOn with
    | _ n ih =>
      intro i j h
      rcases i with _ | i
      · rcases j with _ | j
        · rw [wg_00]; omega
        · rw [wg_0s]; decide
      · rcases j with _ | j
        · rw [wg_s0]; decide
        · rcases Classical.em (Bnd b i j) with hB | hB
          · rw [wg_in _ _ _ _ hB]
            have h1 := ih (i + j) (by omega) i j rfl
            have h2 := ih (i + (j + 1)) (by omega) i (j + 1) rfl
            have h3 := ih (i + 1 + j) (by omega) (i + 1) j rfl
            have h4 := (hf i j).1
            have h5 : 0 ≤ mn3 (wg f b i j) (wg f b i (j + 1)) (wg f b (i + 1) j) := mn_ge (mn_ge h1 h2) h3
            omega
          · rw [wg_out _ _ _ _ hB]; decide
  intro n
  induction n using Nat.strongRecOn with
  | _ n ih =>
    intro i j h hB
    refine ⟨nn _ _ _ rfl, ?_⟩
    rw [wg_in _ _ _ _ hB]
    have hc := (hf i j).2
    have hm := mn3_le (wg f b i j) (wg f b i (j + 1)) (wg f b (i + 1) j)
    rcases i with _ | i
    · rcases j with _ | j
      · rw [wg_00] at *; omega
      · have := (ih j (by omega) 0 j (by omega) ⟨by have := hB.1; omega, by have := hB.2; omega⟩).2
        omega
    · rcases j with _ | j
      · have := (ih i (by omega) i 0 (by omega) ⟨by have := hB.1; omega, by have := hB.2; omega⟩).2
        omega
      · have := (ih (i + j) (by omega) i j (by omega) ⟨by have := hB.1; omega, by have := hB.2; omega⟩).2
        omega
theorem wg_nn {f : Nat → Nat → Int} {b : Int} (hf : Fb f) (i j : Nat) : 0 ≤ wg f b i j := by
  have : ∀ (n i j : Nat), i + j = n → 0 ≤ wg f b i j := by
    intro n
    induction n using Nat.strongRecOn with
    | _ n ih =>
      intro i j h
      rcases i with _ | i
      · rcases j with _ | j
        · rw [wg_00]; omega
        · rw [wg_0s]; decide
      · rcases j with _ | j
        · rw [wg_s0]; decide
        · rcases Classical.em (Bnd b i j) with hB | hB
          · rw [wg_in _ _ _ _ hB]
            have h1 := ih (i + j) (by omega) i j rfl
            have h2 := ih (i + (j + 1)) (by omega) i (j + 1) rfl
            have h3 := ih (i + 1 + j) (by omega) (i + 1) j rfl
            have h4 := (hf i j).1
            have h5 : 0 ≤ mn3 (wg f b i j) (wg f b i (j + 1)) (wg f b (i + 1) j) := mn_ge (mn_ge h1 h2) h3
            omega
          · rw [wg_out _ _ _ _ hB]; decide
  exact this _ _ _ rfl
/-- a bound for all numbers of the table -/
theorem wg_hi {f : Nat → Nat → Int} {b : Int} (hf : Fb f) (hb : 0 ≤ b) (i j : Nat) (hi : i ≤ 64) (hj : j ≤ 64) : wg f b i j ≤ far := by
  rcases i with _ | i
  · rcases j with _ | j
    · rw [wg_00]; decide
    · rw [wg_0s]; decide
  · rcases j with _ | j
    · rw [wg_s0]; decide
    · rcases Classical.em (Bnd b i j) with hB | hB
      · have := (wg_fin hf hb _ i j rfl hB).2
        unfold far
        omega
      · rw [wg_out _ _ _ _ hB]; decide
theorem wg_small {f : Nat → Nat → Int} {b : Int} (hf : Fb f) (hb : 0 ≤ b) {i j : Nat} (hi : i ≤ 64) (hj : j ≤ 64) (hB : Bnd b i j) : wg f b (i + 1) (j + 1) < far := by
  have := (wg_fin hf hb _ i j rfl hB).2
  unfold far
  omega

theorem wg_cst (X Y : List Int) (b : Int) : ∀ (n i j : Nat), i + j = n → wt X Y b i j = wg (cst X Y) b i j := by
  intro n
  induction n using Nat.strongRecOn with
  | _ n ih =>
    intro i j h
    rcases i with _ | i
    · rcases j with _ | j
      · rw [wt_00, wg_00]
      · rw [wt_0s, wg_0s]
    · rcases j with _ | j
      · rw [wt_s0, wg_s0]
      · rcases Classical.em (Bnd b i j) with hB | hB
        · rw [wt_in _ _ _ _ _ hB, wg_in _ _ _ _ hB, ih (i + j) (by omega) i j rfl, ih (i + (j + 1)) (by omega) i (j + 1) rfl, ih (i + 1 + j) (by omega) (i + 1) j rfl]
        · rw [wt_out _ _ _ _ _ hB, wg_out _ _ _ _ hB]
theorem mn3_mono {a b c d e k : Int} (h1 : a ≤ d) (h2 : b ≤ e) (h3 : c ≤ k) : mn3 a b c ≤ mn3 d e k := by
  have h := mn3_le a b c
  exact mn_ge (mn_ge (by omega) (by omega)) (by omega)
theorem wg_mono {f g : Nat → Nat → Int} {b : Int} (hfg : ∀ i j, f i j ≤ g i j) : ∀ (n i j : Nat), i + j = n → wg f b i j ≤ wg g b i j := by
  intro n
  induction n using Nat.strongRecOn with
  | _ n ih =>
    intro i j h
    rcases i with _ | i
    · rcases j with _ | j
      · rw [wg_00, wg_00]; exact Int.le_refl _
      · rw [wg_0s, wg_0s]; exact Int.le_refl _
    · rcases j with _ | j
      · rw [wg_s0, wg_s0]; exact Int.le_refl _
      · rcases Classical.em (Bnd b i j) with hB | hB
        · rw [wg_in _ _ _ _ hB, wg_in _ _ _ _ hB]
          have := mn3_mono (ih (i + j) (by omega) i j rfl) (ih (i + (j + 1)) (by omega) i (j + 1) rfl) (ih (i + 1 + j) (by omega) (i + 1) j rfl)
          have := hfg i j
          omega
        · rw [wg_out _ _ _ _ hB, wg_out _ _ _ _ hB]; exact Int.le_refl _
/-- least costs of two kinds together are no less than each alone -/
theorem wg_add {f g : Nat → Nat → Int} {b : Int} (hf : Fb f) (hg : Fb g) : ∀ (n i j : Nat), i + j = n → wg (fun i j => f i j + g i j) b i j < far → wg f b i j + wg g b i j ≤ wg (fun i j => f i j + g i j) b i j := by
  intro n
  induction n using Nat.strongRecOn with
  | _ n ih =>
    intro i j h hlt
    rcases i with _ | i
    · rcases j with _ | j
      · rw [wg_00, wg_00, wg_00]; omega
      · rw [wg_0s] at hlt; omega
    · rcases j with _ | j
      · rw [wg_s0] at hlt; omega
      · rcases Classical.em (Bnd b i j) with hB | hB
        · rw [wg_in _ _ _ _ hB] at hlt
          rw [wg_in _ _ _ _ hB, wg_in _ _ _ _ hB, wg_in _ _ _ _ hB]
          have a1 := ih (i + j) (by omega) i j rfl
          have a2 := ih (i + (j + 1)) (by omega) i (j + 1) rfl
          have a3 := ih (i + 1 + j) (by omega) (i + 1) j rfl
          have c1 := (hf i j).1
          have c2 := (hg i j).1
          have l1 := mn3_le (wg f b i j) (wg f b i (j + 1)) (wg f b (i + 1) j)
          have l2 := mn3_le (wg g b i j) (wg g b i (j + 1)) (wg g b (i + 1) j)
          rcases mn3_or (wg (fun i j => f i j + g i j) b i j) (wg (fun i j => f i j + g i j) b i (j + 1)) (wg (fun i j => f i j + g i j) b (i + 1) j) with e | e | e
          · rw [e] at hlt ⊢
            have := a1 (by omega)
            omega
          · rw [e] at hlt ⊢
            have := a2 (by omega)
            omega
          · rw [e] at hlt ⊢
            have := a3 (by omega)
            omega
        · rw [wg_out _ _ _ _ hB] at hlt; omega
/-- the costs along the diagonal -/
def dg (f : Nat → Nat → Int) : Nat → Int
  | 0 => 0
  | n + 1 => dg f n + f n n
theorem wg_diag {f : Nat → Nat → Int} {b : Int} (hb : 0 ≤ b) : ∀ n, wg f b n n ≤ dg f n
  | 0 => by rw [wg_00]; exact Int.le_refl _
  | n + 1 => by
    rw [wg_in _ _ _ _ ⟨by omega, by omega⟩]
    have h1 := wg_diag (f := f) hb n
    have h2 := (mn3_le (wg f b n n) (wg f b n (n + 1)) (wg f b (n + 1) n)).1
    show _ ≤ dg f n + f n n
    omega
theorem dg_add (f g : Nat → Nat → Int) : ∀ n, dg (fun i j => f i j + g i j) n = dg f n + dg g n
  | 0 => rfl
  | n + 1 => by
    show dg (fun i j => f i j + g i j) n + (f n n + g n n) = dg f n + f n n + (dg g n + g n n)
    rw [dg_add f g n]; omega
theorem dg_cst {X Y : List Int} (hs : Sam X) (ht : Sam Y) (hl : X.length = Y.length) (h60 : X.length ≤ 60) : ∀ n, n ≤ X.length → dg (cst X Y) n = su sq ((df X Y).take n) := by
  intro n
  induction n with
  | zero => intro _; rfl
  | succ n ih =>
    intro hn
    have e0 := wt_zero hs ht hl n (by omega) (by omega)
    have e1 := wt_zero hs ht hl (n + 1) hn (by omega)
    have hd : n < (df X Y).length := by
      have : (df X Y).length = X.length := by simp [df, hl]
      omega
    rw [su_next sq (df X Y) n hd, ← ih (by omega)]
    show dg (cst X Y) n + cst X Y n n = _
    congr 1
    simp only [cst, df, sq, List.getD_eq_getElem?_getD]
    simp [List.getElem?_zipWith, show n < X.length by omega, show n < Y.length by omega]
/-- the cost of a pair in all channels; the sums of least costs and of squares over the channels -/
def fsum : List (List Int) → List (List Int) → Nat → Nat → Int
  | x :: xs, y :: ys => fun i j => cst x y i j + fsum xs ys i j
  | _, _ => fun _ _ => 0
def asum (b : Int) (n m : Nat) : List (List Int) → List (List Int) → Int
  | x :: xs, y :: ys => wt x y b n m + asum b n m xs ys
  | _, _ => 0
def esum : List (List Int) → List (List Int) → Int
  | x :: xs, y :: ys => su sq (df x y) + esum xs ys
  | _, _ => 0
/-- channels of samples -/
def Sams (xs : List (List Int)) (n : Nat) : Prop := ∀ x ∈ xs, Sam x ∧ x.length = n
theorem fsum_in : ∀ (xs ys : List (List Int)) (n m : Nat), Sams xs n → Sams ys m → ∀ i j, 0 ≤ fsum xs ys i j ∧ fsum xs ys i j ≤ 4000000 * (xs.length : Int)
  | [], _, _, _, _, _, _, _ => ⟨Int.le_refl _, by simp [fsum]⟩
  | _ :: _, [], _, _, _, _, _, _ => ⟨Int.le_refl _, by simp [fsum]; omega⟩
  | x :: xs, y :: ys, n, m, h, k, i, j => by
    have ih := fsum_in xs ys n m (fun z hz => h z (List.mem_cons_of_mem _ hz)) (fun z hz => k z (List.mem_cons_of_mem _ hz)) i j
    have hc := cst_in (h x List.mem_cons_self).1 (k y List.mem_cons_self).1 i j
    show 0 ≤ cst x y i j + fsum xs ys i j ∧ cst x y i j + fsum xs ys i j ≤ 4000000 * ((x :: xs).length : Int)
    rw [List.length_cons]
    omega
theorem fsum_fb {xs ys : List (List Int)} {n m : Nat} (h : Sams xs n) (k : Sams ys m) (h5 : xs.length ≤ 5) : Fb (fsum xs ys) := fun i j => by
  have := fsum_in xs ys n m h k i j
  omega
theorem asum_le : ∀ (xs ys : List (List Int)) (n m : Nat) (b : Int) (i j : Nat), Sams xs n → Sams ys m → xs.length ≤ 5 → 0 ≤ b → i ≤ 60 → j ≤ 60 → Bnd b i j → asum b (i + 1) (j + 1) xs ys ≤ wg (fsum xs ys) b (i + 1) (j + 1)
  | [], ys, _, _, b, i, j, _, _, _, _, _, _, _ => by
    have : Fb (fsum [] ys) := fun i j => ⟨Int.le_refl 0, by show (0 : Int) ≤ 20000000; omega⟩
    exact wg_nn this _ _
  | _ :: _, [], _, _, b, i, j, _, _, _, _, _, _, _ => by
    have : ∀ x xs, Fb (fsum (x :: xs) []) := fun x xs i j => ⟨Int.le_refl 0, by show (0 : Int) ≤ 20000000; omega⟩
    exact wg_nn (this _ _) _ _
  | x :: xs, y :: ys, n, m, b, i, j, h, k, h5, hb, hi, hj, hB => by
    have hx : Sams xs n := fun z hz => h z (List.mem_cons_of_mem _ hz)
    have hy : Sams ys m := fun z hz => k z (List.mem_cons_of_mem _ hz)
    have ih := asum_le xs ys n m b i j hx hy (by simp at h5; omega) hb hi hj hB
    have f1 : Fb (cst x y) := fun i j => by
      have := cst_in (h x List.mem_cons_self).1 (k y List.mem_cons_self).1 i j
      omega
    have f2 := fsum_fb hx hy (by simp at h5; omega)
    have f3 := fsum_fb h k h5
    have hs := wg_small f3 hb (i := i) (j := j) (by omega) (by omega) hB
    have ha := wg_add (b := b) f1 f2 _ (i + 1) (j + 1) rfl hs
    have hw := wg_cst x y b _ (i + 1) (j + 1) rfl
    show wt x y b (i + 1) (j + 1) + asum b (i + 1) (j + 1) xs ys ≤ wg (fun i j => cst x y i j + fsum xs ys i j) b (i + 1) (j + 1)
    rw [hw]
    omega
theorem dg_fsum : ∀ (xs ys : List (List Int)) (n : Nat), Sams xs n → Sams ys n → xs.length = ys.length → n ≤ 60 → dg (fsum xs ys) n = esum xs ys
  | [], [], n, _, _, _, _ => by
    have : ∀ n, dg (fsum [] []) n = 0 := fun n => by induction n with
      | zero => rfl
      | succ n ih => show dg (fsum [] []) n + 0 = 0; rw [ih]; rfl
    exact this n
  | x :: xs, y :: ys, n, h, k, hl, h60 => by
    have ih := dg_fsum xs ys n (fun z hz => h z (List.mem_cons_of_mem _ hz)) (fun z hz => k z (List.mem_cons_of_mem _ hz)) (by simpa using hl) h60
    have hx := h x List.mem_cons_self
    have hy := k y List.mem_cons_self
    have hd := dg_cst hx.1 hy.1 (by rw [hx.2, hy.2]) (by omega) n (by omega)
    rw [List.take_of_length_le (by simp [df]; omega)] at hd
    show dg (fun i j => cst x y i j + fsum xs ys i j) n = su sq (df x y) + esum xs ys
    rw [dg_add, hd, ih]
  | [], _ :: _, _, _, _, hl, _ => by simp at hl
  | _ :: _, [], _, _, _, hl, _ => by simp at hl
theorem fsum_app : ∀ (xs ys us vs : List (List Int)), xs.length = ys.length → ∀ i j, fsum (xs ++ us) (ys ++ vs) i j = fsum xs ys i j + fsum us vs i j
  | [], [], us, vs, _, i, j => by simp [fsum]
  | x :: xs, y :: ys, us, vs, h, i, j => by
    have := fsum_app xs ys us vs (by simpa using h) i j
    show cst x y i j + fsum (xs ++ us) (ys ++ vs) i j = cst x y i j + fsum xs ys i j + fsum us vs i j
    omega
  | [], _ :: _, _, _, h, _, _ => by simp at h
  | _ :: _, [], _, _, h, _, _ => by simp at h
theorem asum_app (b : Int) (n m : Nat) : ∀ (xs ys us vs : List (List Int)), xs.length = ys.length → asum b n m (xs ++ us) (ys ++ vs) = asum b n m xs ys + asum b n m us vs
  | [], [], us, vs, _ => by simp [asum]
  | x :: xs, y :: ys, us, vs, h => by
    have := asum_app b n m xs ys us vs (by simpa using h)
    show wt x y b n m + asum b n m (xs ++ us) (ys ++ vs) = wt x y b n m + asum b n m xs ys + asum b n m us vs
    omega
  | [], _ :: _, _, _, h => by simp at h
  | _ :: _, [], _, _, h => by simp at h
theorem esum_app : ∀ (xs ys us vs : List (List Int)), xs.length = ys.length → esum (xs ++ us) (ys ++ vs) = esum xs ys + esum us vs
  | [], [], us, vs, _ => by simp [esum]
  | x :: xs, y :: ys, us, vs, h => by
    have := esum_app xs ys us vs (by simpa using h)
    show su sq (df x y) + esum (xs ++ us) (ys ++ vs) = su sq (df x y) + esum xs ys + esum us vs
    omega
  | [], _ :: _, _, _, h => by simp at h
  | _ :: _, [], _, _, h => by simp at h
end Go.Proofs.Ythmdponfigepjaa.Wi
