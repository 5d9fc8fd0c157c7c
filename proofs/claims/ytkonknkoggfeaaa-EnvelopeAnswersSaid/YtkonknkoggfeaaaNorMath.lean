/- Plain facts about products and gaps of windows (layer 13): no program here. -/
import Derived.Test.YtkonknkoggfeaaaEucMath
import Derived.Test.YtkonknkoggfeaaaRatioMath
namespace Go.Proofs.Ytkonknkoggfeaaa.Wi
open Ra
set_option linter.unusedVariables false
/-- the product of two windows -/
def pr (X Y : List Int) : Int := (X.length : Int) * dot X Y - su ix X * su ix Y
theorem dot_self (X : List Int) : dot X X = su sq X := by
  induction X with
  | nil => rfl
  | cons a X ih => show a * a + dot X X = a * a + su sq X; rw [ih]
theorem pr_self (X : List Int) : pr X X = vr X := by unfold pr vr; rw [dot_self]
theorem dot_comm (X Y : List Int) : dot X Y = dot Y X := by
  induction X generalizing Y with
  | nil => rcases Y with _ | ⟨b, Y⟩ <;> rfl
  | cons a X ih =>
    rcases Y with _ | ⟨b, Y⟩
    · rfl
    · show a * b + dot X Y = b * a + dot Y X
      rw [ih, Int.mul_comm]
theorem pr_comm {X Y : List Int} (h : X.length = Y.length) : pr X Y = pr Y X := by
  unfold pr; rw [dot_comm, h, Int.mul_comm (su ix X)]
theorem vr_lc (s t : Int) (X Y : List Int) (h : X.length = Y.length) : vr (lc s t X Y) = s * s * vr X + 2 * (s * t) * pr X Y + t * t * vr Y := by
  unfold vr pr
  rw [lc_len s t h, lc_sq _ _ _ _ h, lc_su _ _ _ _ h, ← h]
  grind
theorem pr_cs {X Y : List Int} (h : X.length = Y.length) : pr X Y * pr X Y ≤ vr X * vr Y :=
  quad_cs fun s t => by rw [← vr_lc s t _ _ h]; exact vr_nn _
theorem vr_le {X : List Int} (hs : Sam X) (h : X.length ≤ 32) : 0 ≤ vr X ∧ vr X ≤ 1024000000 := by
  have q := sq_su_in hs
  have n := sq_nn (su ix X)
  have m : (X.length : Int) * su sq X ≤ 32 * 32000000 := Int.mul_le_mul (by omega) (by omega) q.1 (by omega)
  refine ⟨vr_nn _, ?_⟩
  unfold vr
  omega
theorem sq_le {p B : Int} (hB : 0 ≤ B) (h : p * p ≤ B * B) : -B ≤ p ∧ p ≤ B := by
  refine ⟨?_, ?_⟩
  · rcases Int.lt_or_le p (-B) with g | g
    · have h1 : (B + 1) * (B + 1) ≤ (-p) * (-p) := Int.mul_le_mul (by omega) (by omega) (by omega) (by omega)
      rw [Int.neg_mul_neg] at h1
      have e : (B + 1) * (B + 1) = B * B + 2 * B + 1 := by grind
      omega
    · exact g
  · rcases Int.lt_or_le B p with g | g
    · have h1 : (B + 1) * (B + 1) ≤ p * p := Int.mul_le_mul (by omega) (by omega) (by omega) (by omega)
      have e : (B + 1) * (B + 1) = B * B + 2 * B + 1 := by grind
      omega
    · exact g
theorem vw_le {v w : Int} (v0 : 0 ≤ v) (w0 : 0 ≤ w) (v1 : v ≤ 1024000000) (w1 : w ≤ 1024000000) : 0 ≤ v * w ∧ v * w ≤ 1048576000000000000 :=
  ⟨Int.mul_nonneg v0 w0, Int.le_trans (Int.mul_le_mul v1 w1 w0 (by omega)) (by decide)⟩
theorem pr_le {X Y : List Int} (hs : Sam X) (ht : Sam Y) (h : X.length ≤ 32) (hl : X.length = Y.length) : -1024000000 ≤ pr X Y ∧ pr X Y ≤ 1024000000 := by
  have a := vr_le hs h
  have b := vr_le ht (by omega)
  have c := vw_le a.1 b.1 a.2 b.2
  exact sq_le (by omega) (Int.le_trans (pr_cs hl) (by omega))
/-- the square with the sign of the number -/
def sg (c : Int) : Int := if c < 0 then -(c * c) else c * c
theorem sg_abs (c : Int) : sg c = c * (if c < 0 then -c else c) := by
  unfold sg
  split
  · grind
  · rfl
theorem sg_in {c q : Int} (h : c * c ≤ q) : -q ≤ sg c ∧ sg c ≤ q := by
  have := sq_nn c
  unfold sg
  split <;> omega
theorem sg_zero (c : Int) : sg c = 0 ↔ c = 0 := by
  unfold sg
  constructor
  · intro h
    split at h
    · have : c * c = 0 := by omega
      rcases Int.mul_eq_zero.1 this with h | h <;> exact h
    · rcases Int.mul_eq_zero.1 h with h | h <;> exact h
  · rintro rfl; rfl
theorem sg_pos (c : Int) : 0 < sg c ↔ 0 < c := by
  have := sq_nn c
  unfold sg
  constructor
  · intro h
    split at h
    · omega
    · rcases Int.lt_or_le 0 c with g | g
      · exact g
      · obtain rfl : c = 0 := by omega
        simp at h
  · intro h
    rw [if_neg (by omega)]
    exact Int.mul_pos h h
theorem sg_lt {a b : Int} (h : a < b) : sg a < sg b := by
  have ha := sq_nn a
  have hb := sq_nn b
  unfold sg
  split
  · split
    · have h1 : (-b) * (-b) < (-a) * (-a) := by
        have h2 : (-b) * (-b) ≤ (-b) * (-a) := Int.mul_le_mul_of_nonneg_left (by omega) (by omega)
        have h3 : (-b) * (-a) < (-a) * (-a) := Int.mul_lt_mul_of_pos_right (by omega) (by omega)
        omega
      rw [Int.neg_mul_neg, Int.neg_mul_neg] at h1
      omega
    · have h1 : 0 < (-a) * (-a) := Int.mul_pos (by omega) (by omega)
      rw [Int.neg_mul_neg] at h1
      omega
  · rw [if_neg (by omega)]
    have h2 : a * a ≤ a * b := Int.mul_le_mul_of_nonneg_left (by omega) (by omega)
    have h3 : a * b < b * b := Int.mul_lt_mul_of_pos_right (by omega) (by omega)
    omega
theorem sg_ord (a b : Int) : (sg a < sg b ↔ a < b) ∧ (sg a = sg b ↔ a = b) := by
  rcases Int.lt_trichotomy a b with h | h | h
  · have := sg_lt h
    exact ⟨⟨fun _ => h, fun _ => this⟩, ⟨fun _ => by omega, fun _ => by omega⟩⟩
  · subst h; exact ⟨⟨fun _ => by omega, fun _ => by omega⟩, ⟨fun _ => rfl, fun _ => rfl⟩⟩
  · have := sg_lt h
    exact ⟨⟨fun _ => by omega, fun _ => by omega⟩, ⟨fun _ => by omega, fun _ => by omega⟩⟩
/-- the numerator and the denominator of the gap, before they are reduced -/
def gN (v w c : Int) : Int := if v = 0 then (if w = 0 then 0 else 1) else if w = 0 then 1 else v * w - sg c
def gD (v w : Int) : Int := if v = 0 then 1 else if w = 0 then 1 else v * w
theorem gap_in {v w c : Int} (v0 : 0 ≤ v) (w0 : 0 ≤ w) (v1 : v ≤ 1024000000) (w1 : w ≤ 1024000000) (h : c * c ≤ v * w) :
    0 ≤ gN v w c ∧ gN v w c ≤ 2097152000000000000 ∧ 1 ≤ gD v w ∧ gD v w ≤ 1048576000000000000 ∧ gN v w c ≤ 2 * gD v w := by
  have a := vw_le v0 w0 v1 w1
  have b := sg_in h
  unfold gN gD
  rcases Classical.em (v = 0) with hv | hv
  · rw [if_pos hv, if_pos hv]
    split <;> omega
  · rw [if_neg hv, if_neg hv]
    rcases Classical.em (w = 0) with hw | hw
    · rw [if_pos hw, if_pos hw]
      omega
    · rw [if_neg hw, if_neg hw]
      have : 0 < v * w := Int.mul_pos (by omega) (by omega)
      omega
/-- the reduced gap -/
def rN (v w c : Int) : Int := gN v w c / gd (gN v w c) (gD v w)
def rD (v w c : Int) : Int := gD v w / gd (gN v w c) (gD v w)
theorem red_in {v w c : Int} (v0 : 0 ≤ v) (w0 : 0 ≤ w) (v1 : v ≤ 1024000000) (w1 : w ≤ 1024000000) (h : c * c ≤ v * w) :
    RV (rN v w c) (rD v w c) ∧ rN v w c * gD v w = gN v w c * rD v w c ∧ 0 ≤ rN v w c ∧ rN v w c ≤ 2097152000000000000 ∧ 1 ≤ rD v w c ∧ rD v w c ≤ 1048576000000000000 := by
  have a := gap_in v0 w0 v1 w1 h
  have b := make_facts (n := gN v w c) (d := gD v w) a.1 a.2.2.1 (by omega) (by omega)
  unfold rN rD
  exact ⟨b.2.2.2.2.2.2.1, b.2.2.2.2.2.2.2, b.1, by omega, b.2.2.1, by omega⟩
theorem red_mul {a b k : Int} (ha : 0 ≤ a) (hb : 0 < b) (hk : 0 < k) : a * k / gd (a * k) (b * k) = a / gd a b ∧ b * k / gd (a * k) (b * k) = b / gd a b := by
  rw [gd_mul ha (by omega) (by omega)]
  exact ⟨quot_scale hk, quot_scale hk⟩
/-- a reduced gap is known by its quotient -/
theorem red_cross {v w c n d : Int} (v0 : 0 ≤ v) (w0 : 0 ≤ w) (v1 : v ≤ 1024000000) (w1 : w ≤ 1024000000) (h : c * c ≤ v * w) (hr : RV n d) (he : gN v w c * d = n * gD v w) : rN v w c = n ∧ rD v w c = d := by
  obtain ⟨a, b, _⟩ := red_in v0 w0 v1 w1 h
  have g := gap_in v0 w0 v1 w1 h
  refine rv_eq a hr ?_
  have e1 : rN v w c * d * gD v w = n * rD v w c * gD v w := by
    have : rN v w c * d * gD v w = rN v w c * gD v w * d := by grind
    rw [this, b]
    have : gN v w c * rD v w c * d = gN v w c * d * rD v w c := by grind
    rw [this, he]; grind
  exact Int.eq_of_mul_eq_mul_right (by omega) e1
theorem one_rv : RV 0 1 ∧ RV 1 1 ∧ RV 2 1 := ⟨⟨⟨by decide, by decide, by decide, by decide⟩, by decide⟩, ⟨⟨by decide, by decide, by decide, by decide⟩, by decide⟩, ⟨⟨by decide, by decide, by decide, by decide⟩, by decide⟩⟩
theorem gap_scale {v w c k : Int} (v0 : 0 ≤ v) (w0 : 0 ≤ w) (h : c * c ≤ v * w) (hk : 0 < k) : rN (k * k * v) w (k * c) = rN v w c ∧ rD (k * k * v) w (k * c) = rD v w c := by
  have hkk : 0 < k * k := Int.mul_pos hk hk
  rcases Classical.em (v = 0) with hv | hv
  · subst hv
    have e : k * k * 0 = 0 := by omega
    unfold rN rD gN gD
    rw [e]
    simp
  · have hv2 : k * k * v ≠ 0 := by have := Int.mul_pos hkk (show 0 < v by omega); omega
    rcases Classical.em (w = 0) with hw | hw
    · subst hw
      unfold rN rD gN gD
      rw [if_neg hv, if_neg hv2, if_neg hv, if_neg hv2]
      simp
    · have hs : sg (k * c) = sg c * (k * k) := by
        unfold sg
        rcases Int.lt_or_le c 0 with hc | hc
        · have : k * c < 0 := by have := Int.mul_pos hk (show 0 < -c by omega); have e : k * -c = -(k * c) := by grind
                                 omega
          rw [if_pos hc, if_pos this]; grind
        · have : 0 ≤ k * c := Int.mul_nonneg (by omega) hc
          rw [if_neg (by omega), if_neg (by omega)]; grind
      have eN : gN (k * k * v) w (k * c) = gN v w c * (k * k) := by
        unfold gN
        rw [if_neg hv, if_neg hv2, if_neg hw, if_neg hw, hs]; grind
      have eD : gD (k * k * v) w = gD v w * (k * k) := by
        unfold gD
        rw [if_neg hv, if_neg hv2, if_neg hw, if_neg hw]; grind
      have hg : 0 ≤ gN v w c := by
        unfold gN
        rw [if_neg hv, if_neg hw]
        have := sg_in h
        omega
      have hd : 0 < gD v w := by
        unfold gD
        rw [if_neg hv, if_neg hw]
        exact Int.mul_pos (by omega) (by omega)
      unfold rN rD
      rw [eN, eD]
      exact red_mul hg hd hkk
theorem gap_swap (v w c : Int) : rN v w c = rN w v c ∧ rD v w c = rD w v c := by
  have e1 : gN v w c = gN w v c := by unfold gN; rw [Int.mul_comm v w]; split <;> split <;> rfl
  have e2 : gD v w = gD w v := by unfold gD; rw [Int.mul_comm v w]; split <;> split <;> rfl
  unfold rN rD
  rw [e1, e2]
  exact ⟨rfl, rfl⟩
/-- the products of the samples -/
def pw (X Y : List Int) : List Int := List.zipWith (fun a b => a * b) X Y
theorem pw_len {X Y : List Int} (h : X.length = Y.length) : (pw X Y).length = X.length := by simp [pw, h]
theorem pw_at {X Y : List Int} (h : X.length = Y.length) (i : Nat) (hi : i < X.length) : (pw X Y).getD i 0 = X.getD i 0 * Y.getD i 0 := by
  have hj : i < Y.length := by omega
  rw [List.getD_eq_getElem?_getD, List.getD_eq_getElem?_getD, List.getD_eq_getElem?_getD, pw, List.getElem?_zipWith, List.getElem?_eq_getElem hi, List.getElem?_eq_getElem hj]
  rfl
theorem dot_pw (X Y : List Int) : dot X Y = su ix (pw X Y) := by
  induction X generalizing Y with
  | nil => rcases Y with _ | ⟨b, Y⟩ <;> rfl
  | cons a X ih =>
    rcases Y with _ | ⟨b, Y⟩
    · rfl
    · show a * b + dot X Y = a * b + su ix (pw X Y)
      rw [ih]
theorem mul_bd {A B x y : Int} (hA : 0 ≤ A) (hB : 0 ≤ B) (h1 : -A ≤ x) (h2 : x ≤ A) (h3 : -B ≤ y) (h4 : y ≤ B) : -(A * B) ≤ x * y ∧ x * y ≤ A * B := by
  have e1 : 0 ≤ (A - x) * (B + y) := Int.mul_nonneg (by omega) (by omega)
  have e2 : 0 ≤ (A + x) * (B - y) := Int.mul_nonneg (by omega) (by omega)
  have e3 : 0 ≤ (A - x) * (B - y) := Int.mul_nonneg (by omega) (by omega)
  have e4 : 0 ≤ (A + x) * (B + y) := Int.mul_nonneg (by omega) (by omega)
  have f1 : (A - x) * (B + y) + (A + x) * (B - y) = 2 * (A * B) - 2 * (x * y) := by grind
  have f2 : (A - x) * (B - y) + (A + x) * (B + y) = 2 * (A * B) + 2 * (x * y) := by grind
  omega
theorem pw_bd {A B : Int} {X Y : List Int} (hA : 0 ≤ A) (hB : 0 ≤ B) (h1 : Bd A X) (h2 : Bd B Y) : Bd (A * B) (pw X Y) := by
  induction X generalizing Y with
  | nil => intro x hx; simp [pw] at hx
  | cons a X ih =>
    rcases Y with _ | ⟨b, Y⟩
    · intro x hx; simp [pw] at hx
    · intro x hx
      rcases List.mem_cons.1 (show x ∈ (a * b) :: pw X Y from hx) with rfl | hx
      · have p := h1 a (by simp)
        have q := h2 b (by simp)
        exact mul_bd hA hB p.1 p.2 q.1 q.2
      · exact ih (fun y hy => h1 y (by simp [hy])) (fun y hy => h2 y (by simp [hy])) x hx
/-- affine copies -/
def af (s t : Int) (X : List Int) : List Int := X.map fun x => x * s + t
theorem af_su (s t : Int) (X : List Int) : su ix (af s t X) = s * su ix X + (X.length : Int) * t := by
  induction X with
  | nil => simp [af, su]
  | cons a X ih =>
    rw [show su ix (af s t (a :: X)) = (a * s + t) + su ix (af s t X) from rfl, ih, show su ix (a :: X) = a + su ix X from rfl, show ((a :: X).length : Int) = (X.length : Int) + 1 by simp]
    grind
theorem af_dot (s t p q : Int) (X Y : List Int) (h : X.length = Y.length) : dot (af s t X) (af p q Y) = s * p * dot X Y + s * q * su ix X + t * p * su ix Y + (X.length : Int) * (t * q) := by
  induction X generalizing Y with
  | nil =>
    rcases Y with _ | ⟨b, Y⟩
    · simp [af, su, dot]
    · simp at h
  | cons a X ih =>
    rcases Y with _ | ⟨b, Y⟩
    · simp at h
    · rw [show dot (af s t (a :: X)) (af p q (b :: Y)) = (a * s + t) * (b * p + q) + dot (af s t X) (af p q Y) from rfl, ih Y (by simpa using h), show dot (a :: X) (b :: Y) = a * b + dot X Y from rfl, show su ix (a :: X) = a + su ix X from rfl, show su ix (b :: Y) = b + su ix Y from rfl, show ((a :: X).length : Int) = (X.length : Int) + 1 by simp]
      grind
theorem af_at (s t : Int) (X : List Int) (i : Nat) (h : i < X.length) : (af s t X).getD i 0 = X.getD i 0 * s + t := by
  rw [List.getD_eq_getElem?_getD, List.getD_eq_getElem?_getD, af, List.getElem?_map, List.getElem?_eq_getElem h]
  rfl
theorem af_len (s t : Int) (X : List Int) : (af s t X).length = X.length := by simp [af]
theorem af_id (X : List Int) : af 1 0 X = X := by
  induction X with
  | nil => rfl
  | cons a X ih => show (a * 1 + 0) :: af 1 0 X = a :: X; rw [ih]; congr 1; omega
theorem af_pr (s t p q : Int) (X Y : List Int) (h : X.length = Y.length) : pr (af s t X) (af p q Y) = s * p * pr X Y := by
  unfold pr
  rw [af_dot _ _ _ _ _ _ h, af_su, af_su, af_len, ← h]
  grind
theorem af_vr (s t : Int) (X : List Int) : vr (af s t X) = s * s * vr X := by
  rw [← pr_self, af_pr _ _ _ _ _ _ rfl, pr_self]
/-- the centred samples -/
def cen (X : List Int) : List Int := af (X.length : Int) (-su ix X) X
theorem cen_su (X : List Int) : su ix (cen X) = 0 := by unfold cen; rw [af_su]; grind
theorem cen_dot {X Y : List Int} (h : X.length = Y.length) : dot (cen X) (cen Y) = (X.length : Int) * pr X Y := by
  unfold cen pr; rw [af_dot _ _ _ _ _ _ h, ← h]; grind
theorem cen_bd {X : List Int} (hs : Sam X) (h : X.length ≤ 32) : Bd 64000 (cen X) := by
  intro y hy
  obtain ⟨x, hx, rfl⟩ := List.mem_map.1 hy
  have a := hs x hx
  have b := su_in hs
  have c := mul_bd (A := 1000) (B := 32) (by decide) (by decide) (by omega) a.2 (show -32 ≤ (X.length : Int) by omega) (by omega)
  omega
/-- some sample is not as the first one -/
def spr (X : List Int) : Prop := vr X ≠ 0
theorem vr_two (X : List Int) (i : Nat) (hi : i < X.length) : (X.getD i 0 - X.getD 0 0) * (X.getD i 0 - X.getD 0 0) ≤ vr X := by
  rcases Nat.eq_zero_or_pos i with rfl | h0
  · have := vr_nn X; simpa using this
  · have h1 := vr_parts (X.take (i + 1)) (X.drop (i + 1))
    rw [List.take_append_drop] at h1
    have h2 := vr_nn (X.drop (i + 1))
    rw [take_snoc X i hi, vr_snoc] at h1
    have h3 := vr_nn (X.take i)
    rcases X with _ | ⟨a, X⟩
    · simp at hi
    · obtain ⟨j, rfl⟩ : ∃ j, i = j + 1 := ⟨i - 1, by omega⟩
      have e : difs ((a :: X).getD (j + 1) 0) ((a :: X).take (j + 1)) = ((a :: X).getD (j + 1) 0 - a) * ((a :: X).getD (j + 1) 0 - a) + difs ((a :: X).getD (j + 1) 0) (X.take j) := rfl
      have nn : ∀ x L, 0 ≤ difs x L := fun x L => by
        induction L with
        | nil => simp [difs]
        | cons y L ih => have := sq_nn (x - y); simp only [difs]; omega
      have h4 := nn ((a :: X).getD (j + 1) 0) (X.take j)
      rw [e] at h1
      have e2 : (a :: X).getD 0 0 = a := rfl
      rw [e2]
      omega
theorem vr_same (X : List Int) (h : ∀ i, i < X.length → X.getD i 0 = X.getD 0 0) : vr X = 0 := by
  have e : X = af 0 (X.getD 0 0) X := by
    apply List.ext_getElem?
    intro i
    rcases Nat.lt_or_ge i X.length with hi | hi
    · have := h i hi
      rw [List.getD_eq_getElem?_getD, List.getElem?_eq_getElem hi] at this
      rw [List.getElem?_eq_getElem hi, af, List.getElem?_map, List.getElem?_eq_getElem hi]
      simp only [Option.map_some, Option.getD_some] at *
      rw [this]; simp
    · rw [List.getElem?_eq_none hi, List.getElem?_eq_none (by rw [af_len]; exact hi)]
  rw [e, af_vr]
  omega
theorem su_rev (f : Int → Int) (X : List Int) : su f X.reverse = su f X := by
  induction X with
  | nil => rfl
  | cons a X ih => rw [List.reverse_cons, su_snoc, ih]; show _ = f a + su f X; omega
theorem dot_app (A B C D : List Int) (h : A.length = B.length) : dot (A ++ C) (B ++ D) = dot A B + dot C D := by
  induction A generalizing B with
  | nil =>
    rcases B with _ | ⟨b, B⟩
    · simp [dot]
    · simp at h
  | cons a A ih =>
    rcases B with _ | ⟨b, B⟩
    · simp at h
    · show a * b + dot (A ++ C) (B ++ D) = a * b + dot A B + dot C D
      rw [ih B (by simpa using h)]; omega
theorem dot_rev (X Y : List Int) (h : X.length = Y.length) : dot X.reverse Y.reverse = dot X Y := by
  induction X generalizing Y with
  | nil => rcases Y with _ | ⟨b, Y⟩ <;> simp_all [dot]
  | cons a X ih =>
    rcases Y with _ | ⟨b, Y⟩
    · simp at h
    · have hl : X.length = Y.length := by simpa using h
      rw [List.reverse_cons, List.reverse_cons, dot_app _ _ _ _ (by simpa using hl), ih Y hl]
      show dot X Y + dot [a] [b] = a * b + dot X Y
      simp [dot]; omega
theorem pr_rev (X Y : List Int) (h : X.length = Y.length) : pr X.reverse Y.reverse = pr X Y := by
  unfold pr; rw [dot_rev _ _ h, su_rev, su_rev, List.length_reverse]
theorem vr_rev (X : List Int) : vr X.reverse = vr X := by rw [← pr_self, pr_rev _ _ rfl, pr_self]
theorem vr_turn (X : List Int) (k : Nat) : vr (X.drop k ++ X.take k) = vr X := by
  have e : ∀ f, su f (X.drop k ++ X.take k) = su f X := fun f => by
    rw [su_append, Int.add_comm, ← su_append, List.take_append_drop]
  unfold vr
  rw [e, e, List.length_append, Nat.add_comm, ← List.length_append, List.take_append_drop]
end Go.Proofs.Ytkonknkoggfeaaa.Wi
