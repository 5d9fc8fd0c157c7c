/- Plain facts about sums of squares of differences (layer 12): no program here. -/
import Derived.Test.YtkonknkoggfeaaaWinMath
namespace Go.Proofs.Ytkonknkoggfeaaa.Wi
set_option linter.unusedVariables false
def df (X Y : List Int) : List Int := List.zipWith (fun a b => a - b) X Y
theorem df_len {X Y : List Int} (h : X.length = Y.length) : (df X Y).length = X.length := by simp [df, h]
theorem df_at {X Y : List Int} (h : X.length = Y.length) (i : Nat) (hi : i < X.length) : (df X Y).getD i 0 = X.getD i 0 - Y.getD i 0 := by
  have hj : i < Y.length := by omega
  rw [List.getD_eq_getElem?_getD, List.getD_eq_getElem?_getD, List.getD_eq_getElem?_getD, df, List.getElem?_zipWith, List.getElem?_eq_getElem hi, List.getElem?_eq_getElem hj]
  rfl
theorem df_take (X Y : List Int) (k : Nat) : df (X.take k) (Y.take k) = (df X Y).take k := by simp [df, List.take_zipWith]
theorem df_drop (X Y : List Int) (k : Nat) : df (X.drop k) (Y.drop k) = (df X Y).drop k := by simp [df, List.drop_zipWith]
/-- all numbers are at most B from 0 -/
def Bd (B : Int) (L : List Int) : Prop := ∀ x ∈ L, -B ≤ x ∧ x ≤ B
theorem Bd.take {B : Int} {L : List Int} (h : Bd B L) (n : Nat) : Bd B (L.take n) := fun x hx => h x (List.mem_of_mem_take hx)
theorem sam_bd {L : List Int} (h : Sam L) : Bd 1000 L := h
theorem df_bd {A B : Int} {X Y : List Int} (h1 : Bd A X) (h2 : Bd B Y) : Bd (A + B) (df X Y) := by
  induction X generalizing Y with
  | nil => intro x hx; simp [df] at hx
  | cons a X ih =>
    rcases Y with _ | ⟨b, Y⟩
    · intro x hx; simp [df] at hx
    · intro x hx
      rcases List.mem_cons.1 (show x ∈ (a - b) :: df X Y from hx) with rfl | hx
      · have := h1 a (by simp)
        have := h2 b (by simp)
        omega
      · exact ih (fun y hy => h1 y (by simp [hy])) (fun y hy => h2 y (by simp [hy])) x hx
theorem sq_bd {B x : Int} (h1 : -B ≤ x) (h2 : x ≤ B) : 0 ≤ x * x ∧ x * x ≤ B * B := by
  have a : 0 ≤ (B - x) * (B + x) := Int.mul_nonneg (by omega) (by omega)
  have e : (B - x) * (B + x) = B * B - x * x := by grind
  have b := sq_nn x
  omega
theorem su_bd {B : Int} {L : List Int} (h : Bd B L) : -(B * (L.length : Int)) ≤ su ix L ∧ su ix L ≤ B * (L.length : Int) := by
  induction L with
  | nil => simp [su]
  | cons x L ih =>
    have h1 := ih (fun y hy => h y (by simp [hy]))
    have h2 := h x (by simp)
    have e : B * ((L.length + 1 : Nat) : Int) = B * (L.length : Int) + B := by rw [show ((L.length + 1 : Nat) : Int) = (L.length : Int) + 1 by omega]; grind
    simp only [su, ix, List.length_cons, e]
    omega
theorem susq_bd {B : Int} {L : List Int} (h : Bd B L) : 0 ≤ su sq L ∧ su sq L ≤ B * B * (L.length : Int) := by
  induction L with
  | nil => simp [su]
  | cons x L ih =>
    have h1 := ih (fun y hy => h y (by simp [hy]))
    have h2 := h x (by simp)
    have h3 := sq_bd h2.1 h2.2
    have e : B * B * ((L.length + 1 : Nat) : Int) = B * B * (L.length : Int) + B * B := by rw [show ((L.length + 1 : Nat) : Int) = (L.length : Int) + 1 by omega]; grind
    simp only [su, sq, List.length_cons, e]
    omega
theorem df_zero (X Y : List Int) (h : X.length = Y.length) : su sq (df X Y) = 0 ↔ X = Y := by
  induction X generalizing Y with
  | nil =>
    rcases Y with _ | ⟨b, Y⟩
    · simp [df, su]
    · simp at h
  | cons a X ih =>
    rcases Y with _ | ⟨b, Y⟩
    · simp at h
    · have e : su sq (df (a :: X) (b :: Y)) = (a - b) * (a - b) + su sq (df X Y) := rfl
      have n1 := sq_nn (a - b)
      have n2 : 0 ≤ su sq (df X Y) := by
        have : ∀ L, 0 ≤ su sq L := fun L => by
          induction L with
          | nil => simp [su]
          | cons x L ih2 => have := sq_nn x; simp only [su, sq]; omega
        exact this _
      rw [e]
      have i := ih Y (by simpa using h)
      constructor
      · intro h0
        have h1 : (a - b) * (a - b) = 0 := by omega
        have h2 : su sq (df X Y) = 0 := by omega
        have h3 : a - b = 0 := by rcases Int.mul_eq_zero.1 h1 with h | h <;> exact h
        rw [i.1 h2, show a = b by omega]
      · intro h0
        injection h0 with h1 h2
        subst h1
        rw [i.2 h2]
        simp
def dot : List Int → List Int → Int
  | x :: X, y :: Y => x * y + dot X Y
  | _, _ => 0
def lc (s t : Int) (X Y : List Int) : List Int := List.zipWith (fun a b => s * a + t * b) X Y
theorem lc_len (s t : Int) {X Y : List Int} (h : X.length = Y.length) : (lc s t X Y).length = X.length := by simp [lc, h]
theorem lc_su (s t : Int) (X Y : List Int) (h : X.length = Y.length) : su ix (lc s t X Y) = s * su ix X + t * su ix Y := by
  induction X generalizing Y with
  | nil =>
    rcases Y with _ | ⟨b, Y⟩
    · simp [lc, su]
    · simp at h
  | cons a X ih =>
    rcases Y with _ | ⟨b, Y⟩
    · simp at h
    · have e : su ix (lc s t (a :: X) (b :: Y)) = (s * a + t * b) + su ix (lc s t X Y) := rfl
      rw [e, ih Y (by simpa using h), show su ix (a :: X) = a + su ix X from rfl, show su ix (b :: Y) = b + su ix Y from rfl]
      grind
theorem lc_sq (s t : Int) (X Y : List Int) (h : X.length = Y.length) : su sq (lc s t X Y) = s * s * su sq X + 2 * (s * t) * dot X Y + t * t * su sq Y := by
  induction X generalizing Y with
  | nil =>
    rcases Y with _ | ⟨b, Y⟩
    · simp [lc, su, dot]
    · simp at h
  | cons a X ih =>
    rcases Y with _ | ⟨b, Y⟩
    · simp at h
    · have e : su sq (lc s t (a :: X) (b :: Y)) = (s * a + t * b) * (s * a + t * b) + su sq (lc s t X Y) := rfl
      rw [e, ih Y (by simpa using h), show su sq (a :: X) = a * a + su sq X from rfl, show su sq (b :: Y) = b * b + su sq Y from rfl, show dot (a :: X) (b :: Y) = a * b + dot X Y from rfl]
      grind
theorem susq_nn (L : List Int) : 0 ≤ su sq L := by
  induction L with
  | nil => simp [su]
  | cons x L ih2 => have := sq_nn x; simp only [su, sq]; omega
/-- a quadratic form that is never below 0 -/
theorem quad_cs {A B D : Int} (h : ∀ s t : Int, 0 ≤ s * s * A + 2 * (s * t) * D + t * t * B) : D * D ≤ A * B := by
  have hA : 0 ≤ A := by have := h 1 0; simp at this; exact this
  have hB : 0 ≤ B := by have := h 0 1; simp at this; exact this
  rcases Int.lt_or_le 0 B with hb | hb
  · have h1 := h B (-D)
    have e : B * B * A + 2 * (B * -D) * D + -D * -D * B = B * (A * B - D * D) := by grind
    rw [e] at h1
    rcases Int.lt_or_le (A * B - D * D) 0 with h2 | h2
    · have h3 : 0 < B * -(A * B - D * D) := Int.mul_pos hb (by omega)
      have e2 : B * -(A * B - D * D) = -(B * (A * B - D * D)) := by grind
      omega
    · omega
  · obtain rfl : B = 0 := by omega
    have h1 := h 1 (-((A + 1) * D))
    have e : 1 * 1 * A + 2 * (1 * -((A + 1) * D)) * D + -((A + 1) * D) * -((A + 1) * D) * 0 = A - 2 * ((A + 1) * (D * D)) := by grind
    rw [e] at h1
    have n := sq_nn D
    rcases Int.lt_or_le 0 (D * D) with h2 | h2
    · have h3 : (A + 1) * 1 ≤ (A + 1) * (D * D) := Int.mul_le_mul_of_nonneg_left (by omega) (by omega)
      omega
    · rw [Int.mul_zero]; omega
/-- the roots of sums of squares obey the triangle -/
theorem tri_of {a b c D : Int} (hc : c = a + b + 2 * D) (h : D * D ≤ a * b) : (c - a - b) * (c - a - b) ≤ 4 * (a * b) := by
  have e : (c - a - b) * (c - a - b) = 4 * (D * D) := by
    have : c - a - b = 2 * D := by omega
    rw [this]; grind
  omega
theorem df_lc (X Y Z : List Int) (h1 : X.length = Y.length) (h2 : Y.length = Z.length) : df X Z = lc 1 1 (df X Y) (df Y Z) := by
  induction X generalizing Y Z with
  | nil => simp [df, lc]
  | cons a X ih =>
    rcases Y with _ | ⟨b, Y⟩
    · simp at h1
    · rcases Z with _ | ⟨c, Z⟩
      · simp at h2
      · have e := ih Y Z (by simpa using h1) (by simpa using h2)
        show (a - c) :: df X Z = (1 * (a - b) + 1 * (b - c)) :: lc 1 1 (df X Y) (df Y Z)
        rw [e]
        congr 1
        omega
theorem dist_tri (X Y Z : List Int) (h1 : X.length = Y.length) (h2 : Y.length = Z.length) :
    (su sq (df X Z) - su sq (df X Y) - su sq (df Y Z)) * (su sq (df X Z) - su sq (df X Y) - su sq (df Y Z)) ≤ 4 * (su sq (df X Y) * su sq (df Y Z)) := by
  have hl : (df X Y).length = (df Y Z).length := by rw [df_len h1, df_len h2, h1]
  refine tri_of (D := dot (df X Y) (df Y Z)) ?_ (quad_cs fun s t => ?_)
  · rw [df_lc X Y Z h1 h2, lc_sq _ _ _ _ hl]; grind
  · rw [← lc_sq s t _ _ hl]; exact susq_nn _
theorem shift_tri (X Y Z : List Int) (h1 : X.length = Y.length) (h2 : Y.length = Z.length) :
    (vr (df X Z) - vr (df X Y) - vr (df Y Z)) * (vr (df X Z) - vr (df X Y) - vr (df Y Z)) ≤ 4 * (vr (df X Y) * vr (df Y Z)) := by
  have hl : (df X Y).length = (df Y Z).length := by rw [df_len h1, df_len h2, h1]
  have key : ∀ s t : Int, vr (lc s t (df X Y) (df Y Z)) = s * s * vr (df X Y) + 2 * (s * t) * (((df X Y).length : Int) * dot (df X Y) (df Y Z) - su ix (df X Y) * su ix (df Y Z)) + t * t * vr (df Y Z) := by
    intro s t
    unfold vr
    rw [lc_len s t hl, lc_sq _ _ _ _ hl, lc_su _ _ _ _ hl, ← hl]
    grind
  refine tri_of (D := ((df X Y).length : Int) * dot (df X Y) (df Y Z) - su ix (df X Y) * su ix (df Y Z)) ?_ (quad_cs fun s t => ?_)
  · rw [df_lc X Y Z h1 h2, key]; grind
  · rw [← key s t]; exact vr_nn _
theorem df_swap (X Y : List Int) : su sq (df Y X) = su sq (df X Y) ∧ su ix (df Y X) = -su ix (df X Y) := by
  induction X generalizing Y with
  | nil => rcases Y with _ | ⟨b, Y⟩ <;> simp [df, su]
  | cons a X ih =>
    rcases Y with _ | ⟨b, Y⟩
    · simp [df, su]
    · obtain ⟨i1, i2⟩ := ih Y
      refine ⟨?_, ?_⟩
      · show (b - a) * (b - a) + su sq (df Y X) = (a - b) * (a - b) + su sq (df X Y)
        rw [i1]; grind
      · show (b - a) + su ix (df Y X) = -((a - b) + su ix (df X Y))
        rw [i2]; omega
theorem vr_swap (X Y : List Int) (h : X.length = Y.length) : vr (df Y X) = vr (df X Y) := by
  obtain ⟨a, b⟩ := df_swap X Y
  unfold vr
  rw [a, b, df_len h, df_len h.symm, h, Int.neg_mul_neg]
end Go.Proofs.Ytkonknkoggfeaaa.Wi
