/- Plain facts: Apart is at most Together, Together at most Euclid; a further channel makes no distance less. -/
import Derived.Test.YthmdponfigepjaaChV
namespace Go.Proofs.Ythmdponfigepjaa.Ch
open Go.RowKit Wo Sr Wi
set_option linter.unusedVariables false
theorem aps_le {Ls Ms : Nat → List Int} {b : Int} {n m : Nat} (b0 : 0 ≤ b) (n1 : 1 ≤ n) (m1 : 1 ≤ m) (n32 : n ≤ 32) (m32 : m ≤ 32) (h1 : (n : Int) - (m : Int) ≤ b) (h2 : (m : Int) - (n : Int) ≤ b) :
    ∀ q, q ≤ 4 → (∀ c, c < q → Sam (Ls c) ∧ Sam (Ms c)) → aps b n m Ls Ms q ≤ wg (fs Ls Ms q) b n m
  | 0, _, h => by
    have := wg_nn (b := b) (fs_fb (by omega) h) n m
    show (0 : Int) ≤ _
    exact this
  | q + 1, h4, h => by
    have ih := aps_le b0 n1 m1 n32 m32 h1 h2 q (by omega) (fun c hc => h c (by omega))
    have hF := fs_fb h4 h
    obtain ⟨i, rfl⟩ : ∃ i, n = i + 1 := ⟨n - 1, by omega⟩
    obtain ⟨j, rfl⟩ : ∃ j, m = j + 1 := ⟨m - 1, by omega⟩
    have hs := wg_small hF b0 (i := i) (j := j) (by omega) (by omega) ⟨by omega, by omega⟩
    have ha := wg_add (b := b) (fs_fb (q := q) (by omega) (fun c hc => h c (by omega))) (cst_fb (h q (by omega)).1 (h q (by omega)).2) (i + 1 + (j + 1)) (i + 1) (j + 1) rfl hs
    have e : wg (fun i j => fs Ls Ms q i j + cst (Ls q) (Ms q) i j) b (i + 1) (j + 1) = wg (fs Ls Ms (q + 1)) b (i + 1) (j + 1) := rfl
    rw [e] at ha
    show aps b (i + 1) (j + 1) Ls Ms q + wg (cst (Ls q) (Ms q)) b (i + 1) (j + 1) ≤ _
    omega
theorem dg_fs {Ls Ms : Nat → List Int} {n : Nat} (n32 : n ≤ 32) : ∀ q, (∀ c, c < q → Sam (Ls c) ∧ Sam (Ms c) ∧ (Ls c).length = n ∧ (Ms c).length = n) → dg (fs Ls Ms q) n = es Ls Ms q
  | 0, _ => by
    have : ∀ k, dg (fs Ls Ms 0) k = 0 := by
      intro k
      induction k with
      | zero => rfl
      | succ k ih => show dg (fs Ls Ms 0) k + 0 = 0; rw [ih]; rfl
    exact this n
  | q + 1, h => by
    have ih := dg_fs n32 q (fun c hc => h c (by omega))
    obtain ⟨h1, h2, h3, h4⟩ := h q (by omega)
    have e := dg_add (fs Ls Ms q) (cst (Ls q) (Ms q)) n
    have c := dg_cst h1 h2 (by omega) (by omega) n (by omega)
    have hl : (df (Ls q) (Ms q)).length = n := by rw [df]; simp [h3, h4]
    rw [List.take_of_length_le (by omega)] at c
    show dg (fun i j => fs Ls Ms q i j + cst (Ls q) (Ms q) i j) n = es Ls Ms q + su sq (df (Ls q) (Ms q))
    rw [e, ih, c]
/-- Together is at most Euclid -/
theorem tog_le {Ls Ms : Nat → List Int} {b : Int} {n q : Nat} (b0 : 0 ≤ b) (n32 : n ≤ 32) (h : ∀ c, c < q → Sam (Ls c) ∧ Sam (Ms c) ∧ (Ls c).length = n ∧ (Ms c).length = n) : wg (fs Ls Ms q) b n n ≤ es Ls Ms q := by
  rw [← dg_fs n32 q h]
  exact wg_diag b0 n
/-- a further channel makes no distance less -/
theorem aps_more {Ls Ms : Nat → List Int} {b : Int} {n m : Nat} (q : Nat) (h : Sam (Ls q) ∧ Sam (Ms q)) : aps b n m Ls Ms q ≤ aps b n m Ls Ms (q + 1) := by
  have := wg_nn (b := b) (cst_fb h.1 h.2) n m
  show _ ≤ aps b n m Ls Ms q + _
  omega
theorem tog_more {Ls Ms : Nat → List Int} {b : Int} {n m : Nat} (q : Nat) (h : Sam (Ls q) ∧ Sam (Ms q)) : wg (fs Ls Ms q) b n m ≤ wg (fs Ls Ms (q + 1)) b n m :=
  wg_mono (fun i j => by have := cst_in h.1 h.2 i j; show _ ≤ fs Ls Ms q i j + _; omega) (n + m) n m rfl
end Go.Proofs.Ythmdponfigepjaa.Ch
