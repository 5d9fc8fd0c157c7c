/- Plain facts about sketches (layer 21): no program here. -/
import Derived.Test.YtgdhgeongdenpaaPieM2
import Derived.Test.YtgdhgeongdenpaaRootMath
namespace Go.Proofs.Ytgdhgeongdenpaa.Wi
open Ra
set_option linter.unusedVariables false
/-- the length of a piece -/
def ln (m n k : Nat) : Nat := st m n (k + 1) - st m n k
theorem ln_pos (m n k : Nat) (n1 : 1 ≤ n) (nm : n ≤ m) : 1 ≤ ln m n k := by
  have h := sz m n k n1
  have : 1 ≤ m / n := Nat.div_pos nm n1
  unfold ln; omega
theorem ln_le (m n k : Nat) (n1 : 1 ≤ n) (hk : k < n) : ln m n k ≤ m := by
  have := st_le m n (k + 1) n1 (by omega)
  unfold ln; omega
/-- a quotient, rounded up -/
def cl (a l : Int) : Int := -((-a) / l)
theorem cl_ge {a l : Int} (h : 0 < l) : a ≤ l * cl a l := by
  have h1 := Int.mul_ediv_add_emod (-a) l
  have h2 := Int.emod_nonneg (-a) (show l ≠ 0 by omega)
  unfold cl
  rw [Int.mul_neg]
  omega
theorem cl_lt {a l : Int} (h : 0 < l) : l * cl a l < a + l := by
  have h1 := Int.mul_ediv_add_emod (-a) l
  have h2 := Int.emod_lt_of_pos (-a) h
  unfold cl
  rw [Int.mul_neg]
  omega
theorem cl_one (a : Int) : cl a 1 = a := by unfold cl; simp
theorem cl_bd {a l B : Int} (h : 0 < l) (hB : 0 ≤ B) (h1 : -B ≤ a) (h2 : a ≤ B) : -B ≤ cl a l ∧ cl a l ≤ B := by
  have g1 := cl_ge (a := a) h
  have g2 := cl_lt (a := a) h
  obtain ⟨c, hc⟩ : ∃ c, cl a l = c := ⟨_, rfl⟩
  rw [hc] at g1 g2 ⊢
  constructor
  · rcases Int.lt_or_le c (-B) with h3 | h3
    · have e1 : l * c ≤ l * (-B - 1) := Int.mul_le_mul_of_nonneg_left (by omega) (by omega)
      have e2 : 1 * (B + 1) ≤ l * (B + 1) := Int.mul_le_mul_of_nonneg_right (by omega) (by omega)
      have e3 : l * (-B - 1) = -(l * (B + 1)) := by grind
      omega
    · exact h3
  · rcases Int.lt_or_le B c with h3 | h3
    · have e1 : l * (B + 1) ≤ l * c := Int.mul_le_mul_of_nonneg_left (by omega) (by omega)
      have e2 : l * (B + 1) = l * B + l := by grind
      have e3 : 1 * B ≤ l * B := Int.mul_le_mul_of_nonneg_right (by omega) hB
      omega
    · exact h3
/-- the sums of the pieces -/
def pa (X : List Int) (m n k : Nat) : Int := pg X (st m n k) (st m n (k + 1))
/-- what the sums of the pieces do not have of the squares -/
def rsd (X : List Int) (m n : Nat) : Int := su sq X - tq (fun k => pa X m n k * pa X m n k / (ln m n k : Int)) n
theorem tq_fl_le (X : List Int) (m n : Nat) (hX : X.length = m) (n1 : 1 ≤ n) (nm : n ≤ m) : tq (fun k => pa X m n k * pa X m n k / (ln m n k : Int)) n ≤ su sq X := by
  have key : tq (fun k => pa X m n k * pa X m n k / (ln m n k : Int)) n ≤ tq (fun k => psq X (st m n (k + 1)) - psq X (st m n k)) n := by
    refine tq_le (n := n) (fun k hk => ?_) n (Nat.le_refl n)
    have h1 := pg_cs X (st m n k) (st m n (k + 1)) (st_mono m n _ _ (by omega)) (by rw [hX]; exact st_le m n _ (by omega) (by omega))
    rw [psq_part X _ _ (st_mono m n _ _ (by omega))] at h1
    have hp := ln_pos m n k n1 nm
    show pa X m n k * pa X m n k / (ln m n k : Int) ≤ _
    unfold pa ln at *
    exact Int.ediv_le_of_le_mul (by omega) (by have e := Int.mul_comm (psq X (st m n (k + 1)) - psq X (st m n k)) ((st m n (k + 1) - st m n k : Nat) : Int); rw [e]; exact h1)
  have e := tq_tel (fun k => psq X (st m n k)) n
  have e2 : psq X (st m n n) = su sq X := by rw [st_all m n n1]; unfold psq; rw [List.take_of_length_le (by omega)]
  have e3 : psq X (st m n 0) = 0 := by rw [st_zero]; rfl
  rw [e, e2, e3, Int.sub_zero] at key
  exact key
theorem tq_fl_nn (X : List Int) (m n : Nat) : ∀ i, i ≤ n → 0 ≤ tq (fun k => pa X m n k * pa X m n k / (ln m n k : Int)) i :=
  tq_nn (n := n) (fun k _ => Int.ediv_nonneg (sq_nn _) (by omega))
theorem tq_fl_mono (X : List Int) (m n : Nat) : ∀ (d i : Nat), tq (fun k => pa X m n k * pa X m n k / (ln m n k : Int)) i ≤ tq (fun k => pa X m n k * pa X m n k / (ln m n k : Int)) (i + d)
  | 0, i => Int.le_refl _
  | d + 1, i => by
    have h1 := tq_fl_mono X m n d i
    have h2 : 0 ≤ pa X m n (i + d) * pa X m n (i + d) / (ln m n (i + d) : Int) := Int.ediv_nonneg (sq_nn _) (by omega)
    show _ ≤ tq _ (i + d) + pa X m n (i + d) * pa X m n (i + d) / (ln m n (i + d) : Int)
    omega
theorem rsd_in (X : List Int) (m n : Nat) (hX : X.length = m) (n1 : 1 ≤ n) (nm : n ≤ m) : 0 ≤ rsd X m n ∧ rsd X m n ≤ su sq X := by
  have h1 := tq_fl_le X m n hX n1 nm
  have h2 := tq_fl_nn X m n n (Nat.le_refl n)
  unfold rsd
  omega
/-- the products of the sums of the pieces -/
def bx (X Y : List Int) (m n : Nat) : Int := tq (fun k => pa X m n k * pa Y m n k * wq (m / n) (ln m n k)) n
theorem pg_lc (s t : Int) (X Y : List Int) (h : X.length = Y.length) (a b : Nat) : pg (lc s t X Y) a b = s * pg X a b + t * pg Y a b := by
  have e : ((lc s t X Y).drop a).take (b - a) = lc s t ((X.drop a).take (b - a)) ((Y.drop a).take (b - a)) := by simp [lc, List.take_zipWith, List.drop_zipWith]
  unfold pg
  rw [e, su_ix, su_ix, su_ix, lc_su _ _ _ _ (by simp [h])]
theorem bq_lc (s t : Int) (X Y : List Int) (m n : Nat) (h : X.length = Y.length) : bq (lc s t X Y) m n = s * s * bq X m n + 2 * (s * t) * bx X Y m n + t * t * bq Y m n := by
  unfold bq bx
  rw [← tq_mul, ← tq_mul, ← tq_mul, ← tq_add, ← tq_add]
  refine tq_cong (n := n) (fun k hk => ?_) n (Nat.le_refl n)
  show pg (lc s t X Y) _ _ * pg (lc s t X Y) _ _ * _ = _
  rw [pg_lc s t X Y h]
  unfold pa ln
  grind
/-- products of what is left of two rows -/
theorem left_cs (X Y : List Int) (m n : Nat) (hX : X.length = m) (hY : Y.length = m) (n1 : 1 ≤ n) :
    (dot X Y * cq m n - bx X Y m n) * (dot X Y * cq m n - bx X Y m n) ≤ (su sq X * cq m n - bq X m n) * (su sq Y * cq m n - bq Y m n) :=
  quad_cs fun s t => by
    have h := bq_le (lc s t X Y) m n (by rw [lc_len _ _ (by omega)]; exact hX) n1
    rw [bq_lc s t X Y m n (by omega), lc_sq _ _ _ _ (by omega)] at h
    have e : s * s * (su sq X * cq m n - bq X m n) + 2 * (s * t) * (dot X Y * cq m n - bx X Y m n) + t * t * (su sq Y * cq m n - bq Y m n) = (s * s * su sq X + 2 * (s * t) * dot X Y + t * t * su sq Y) * cq m n - (s * s * bq X m n + 2 * (s * t) * bx X Y m n + t * t * bq Y m n) := by grind
    omega
theorem ln_w (m n k : Nat) (n1 : 1 ≤ n) : (ln m n k : Int) * wq (m / n) (ln m n k) = cq m n := sz_mul m n k n1
theorem rsd_ge (X : List Int) (m n : Nat) (n1 : 1 ≤ n) (nm : n ≤ m) : su sq X * cq m n - bq X m n ≤ cq m n * rsd X m n := by
  have key : cq m n * tq (fun k => pa X m n k * pa X m n k / (ln m n k : Int)) n ≤ bq X m n := by
    unfold bq
    rw [← tq_mul]
    refine tq_le (n := n) (fun k hk => ?_) n (Nat.le_refl n)
    have hp := ln_pos m n k n1 nm
    have h1 : (ln m n k : Int) * (pa X m n k * pa X m n k / (ln m n k : Int)) ≤ pa X m n k * pa X m n k := Int.mul_ediv_self_le (by omega)
    have h2 := Int.mul_le_mul_of_nonneg_right h1 (wq_nn (m / n) (ln m n k))
    show cq m n * (pa X m n k * pa X m n k / (ln m n k : Int)) ≤ pa X m n k * pa X m n k * wq (m / n) (ln m n k)
    rw [← ln_w m n k n1]
    refine Int.le_trans (Int.le_of_eq ?_) h2
    grind
  unfold rsd
  rw [Int.mul_sub, Int.mul_comm (cq m n) (su sq X)]
  omega
theorem bx_le (X Y : List Int) (m n : Nat) (n1 : 1 ≤ n) (nm : n ≤ m) : bx X Y m n ≤ cq m n * tq (fun k => cl (pa X m n k * pa Y m n k) (ln m n k : Int)) n := by
  unfold bx
  rw [← tq_mul]
  refine tq_le (n := n) (fun k hk => ?_) n (Nat.le_refl n)
  have hp := ln_pos m n k n1 nm
  have h1 := cl_ge (a := pa X m n k * pa Y m n k) (l := (ln m n k : Int)) (by omega)
  have h2 := Int.mul_le_mul_of_nonneg_right h1 (wq_nn (m / n) (ln m n k))
  show pa X m n k * pa Y m n k * wq (m / n) (ln m n k) ≤ cq m n * cl (pa X m n k * pa Y m n k) (ln m n k : Int)
  rw [← ln_w m n k n1]
  refine Int.le_trans h2 (Int.le_of_eq ?_)
  grind
/-- the sum of which Upper is the part -/
def ups (X Y : List Int) (m n : Nat) : Int := Rt.cei (rsd X m n) * Rt.cei (rsd Y m n) + tq (fun k => cl (pa X m n k * pa Y m n k) (ln m n k : Int)) n
theorem cei_sq {n : Int} (h : 0 ≤ n) (h2 : n ≤ 4611686018427387904) : n ≤ Rt.cei n * Rt.cei n := by
  rcases Classical.em (Rt.isq n * Rt.isq n < n) with h1 | h1
  · rw [Rt.cei_up h h2 h1]
    have := Rt.isq_lt h
    omega
  · rw [Rt.cei_eq h h2 h1]; omega
theorem cei_le {n B : Int} (h : 0 ≤ n) (hB : 0 ≤ B) (h2 : n ≤ B * B) (h3 : n ≤ 4611686018427387904) : Rt.cei n ≤ B := by
  rcases Classical.em (Rt.isq n * Rt.isq n < n) with h1 | h1
  · rw [Rt.cei_up h h3 h1]
    have := Rt.of_sq_lt (a := Rt.isq n) (b := B) (by omega) hB
    omega
  · rw [Rt.cei_eq h h3 h1]
    exact Rt.of_sq_le (by have := Rt.isq_le h; omega) hB
/-- a bound of the square of a root rounded up -/
theorem cei_sq_le {n B : Int} (h : 0 ≤ n) (hB : 0 ≤ B) (h2 : n ≤ B * B) (h3 : n ≤ 4611686018427387904) : Rt.cei n * Rt.cei n ≤ n + 2 * B := by
  rcases Classical.em (Rt.isq n * Rt.isq n < n) with h1 | h1
  · have h5 := cei_le h hB h2 h3
    rw [Rt.cei_up h h3 h1] at h5 ⊢
    have e : (Rt.isq n + 1) * (Rt.isq n + 1) = Rt.isq n * Rt.isq n + 2 * Rt.isq n + 1 := by grind
    omega
  · rw [Rt.cei_eq h h3 h1]
    have := Rt.isq_le h
    omega
/-- the sum is at least the product -/
theorem ups_ge (X Y : List Int) (m n : Nat) (hX : X.length = m) (hY : Y.length = m) (n1 : 1 ≤ n) (nm : n ≤ m) (m32 : m ≤ 32)
    (bX : su sq X ≤ 32768000000) (bY : su sq Y ≤ 32768000000) : dot X Y ≤ ups X Y m n := by
  have c1 := (cq_in m n n1 nm m32).1
  have r1 := rsd_in X m n hX n1 nm
  have r2 := rsd_in Y m n hY n1 nm
  have g1 := rsd_ge X m n n1 nm
  have g2 := rsd_ge Y m n n1 nm
  have f2 := bq_le Y m n hY n1
  have f1 := bq_le X m n hX n1
  have l := left_cs X Y m n hX hY n1
  have b := bx_le X Y m n n1 nm
  have s1 := cei_sq (n := rsd X m n) r1.1 (by omega)
  have s2 := cei_sq (n := rsd Y m n) r2.1 (by omega)
  have z1 := (Rt.cei_bd (rsd X m n)).1
  have z2 := (Rt.cei_bd (rsd Y m n)).1
  unfold ups
  obtain ⟨R, hR⟩ : ∃ R, Rt.cei (rsd X m n) = R := ⟨_, rfl⟩
  obtain ⟨T, hT⟩ : ∃ R, Rt.cei (rsd Y m n) = R := ⟨_, rfl⟩
  obtain ⟨K, hK⟩ : ∃ R, cq m n = R := ⟨_, rfl⟩
  obtain ⟨D, hD⟩ : ∃ R, dot X Y * cq m n - bx X Y m n = R := ⟨_, rfl⟩
  obtain ⟨C, hC⟩ : ∃ R, tq (fun k => cl (pa X m n k * pa Y m n k) (ln m n k : Int)) n = R := ⟨_, rfl⟩
  obtain ⟨F, hF⟩ : ∃ R, su sq X * cq m n - bq X m n = R := ⟨_, rfl⟩
  obtain ⟨G, hG⟩ : ∃ R, su sq Y * cq m n - bq Y m n = R := ⟨_, rfl⟩
  have f3 : 0 ≤ F := by omega
  have f4 : 0 ≤ G := by omega
  rw [hR] at s1 z1
  rw [hT] at s2 z2
  rw [hD, hF, hG] at l
  rw [hF] at g1
  rw [hG] at g2
  rw [hC] at b
  rw [hK] at c1 g1 g2 b hD
  rw [hR, hT, hC]
  have u1 : F ≤ K * (R * R) := Int.le_trans g1 (Int.mul_le_mul_of_nonneg_left s1 (by omega))
  have u2 : G ≤ K * (T * T) := Int.le_trans g2 (Int.mul_le_mul_of_nonneg_left s2 (by omega))
  have u3 : F * G ≤ (K * (R * R)) * (K * (T * T)) := Int.mul_le_mul u1 u2 f4 (by omega)
  have e3 : (K * (R * R)) * (K * (T * T)) = (K * (R * T)) * (K * (R * T)) := by grind
  have nn : 0 ≤ K * (R * T) := Int.mul_nonneg (by omega) (Int.mul_nonneg z1 z2)
  have u4 : D ≤ K * (R * T) := Rt.of_sq_le (by omega) nn
  have u5 : K * dot X Y ≤ K * (R * T + C) := by
    rw [Int.mul_add]
    have : K * dot X Y = dot X Y * K := Int.mul_comm ..
    omega
  exact Int.le_of_mul_le_mul_left u5 (by omega)
/-- the products of the sums are not too great -/
theorem two_mul_le (a b : Int) : 2 * (a * b) ≤ a * a + b * b ∧ -(a * a + b * b) ≤ 2 * (a * b) := by
  have h1 := sq_nn (a - b)
  have h2 := sq_nn (a + b)
  have e1 : (a - b) * (a - b) = a * a + b * b - 2 * (a * b) := by grind
  have e2 : (a + b) * (a + b) = a * a + b * b + 2 * (a * b) := by grind
  omega
theorem cl_two {a b l : Int} (h : 0 < l) : 2 * cl (a * b) l ≤ a * a / l + b * b / l + 3 ∧ -(a * a / l + b * b / l + 2) ≤ 2 * cl (a * b) l := by
  have t := two_mul_le a b
  have g1 := cl_ge (a := a * b) h
  have g2 := cl_lt (a := a * b) h
  have p1 := Int.lt_mul_ediv_self_add (x := a * a) h
  have p2 := Int.lt_mul_ediv_self_add (x := b * b) h
  obtain ⟨c, hc⟩ : ∃ c, cl (a * b) l = c := ⟨_, rfl⟩
  obtain ⟨p, hp⟩ : ∃ c, a * a / l = c := ⟨_, rfl⟩
  obtain ⟨q, hq⟩ : ∃ c, b * b / l = c := ⟨_, rfl⟩
  rw [hc] at g1 g2 ⊢
  rw [hp] at p1 ⊢
  rw [hq] at p2 ⊢
  constructor
  · rcases Int.lt_or_le (p + q + 3) (2 * c) with h3 | h3
    · have e1 : l * (p + q + 4) ≤ l * (2 * c) := Int.mul_le_mul_of_nonneg_left (by omega) (by omega)
      have e2 : l * (p + q + 4) = l * p + l * q + 4 * l := by grind
      have e3 : l * (2 * c) = 2 * (l * c) := by grind
      omega
    · exact h3
  · rcases Int.lt_or_le (2 * c) (-(p + q + 2)) with h3 | h3
    · have e1 : l * (2 * c) ≤ l * (-(p + q + 2) - 1) := Int.mul_le_mul_of_nonneg_left (by omega) (by omega)
      have e2 : l * (-(p + q + 2) - 1) = -(l * p + l * q + 3 * l) := by grind
      have e3 : l * (2 * c) = 2 * (l * c) := by grind
      omega
    · exact h3
theorem tq_cl_in (X Y : List Int) (m n : Nat) (n1 : 1 ≤ n) (nm : n ≤ m) : ∀ i, i ≤ n →
    2 * tq (fun k => cl (pa X m n k * pa Y m n k) (ln m n k : Int)) i ≤ tq (fun k => pa X m n k * pa X m n k / (ln m n k : Int)) i + tq (fun k => pa Y m n k * pa Y m n k / (ln m n k : Int)) i + 3 * (i : Int) ∧
    -(tq (fun k => pa X m n k * pa X m n k / (ln m n k : Int)) i + tq (fun k => pa Y m n k * pa Y m n k / (ln m n k : Int)) i + 2 * (i : Int)) ≤ 2 * tq (fun k => cl (pa X m n k * pa Y m n k) (ln m n k : Int)) i
  | 0, _ => by simp [tq]
  | i + 1, hi => by
    have ih := tq_cl_in X Y m n n1 nm i (by omega)
    have hp := ln_pos m n i n1 nm
    have h := cl_two (a := pa X m n i) (b := pa Y m n i) (l := (ln m n i : Int)) (by omega)
    show 2 * (tq _ i + cl (pa X m n i * pa Y m n i) (ln m n i : Int)) ≤ (tq _ i + pa X m n i * pa X m n i / (ln m n i : Int)) + (tq _ i + pa Y m n i * pa Y m n i / (ln m n i : Int)) + 3 * ((i + 1 : Nat) : Int) ∧ -((tq _ i + pa X m n i * pa X m n i / (ln m n i : Int)) + (tq _ i + pa Y m n i * pa Y m n i / (ln m n i : Int)) + 2 * ((i + 1 : Nat) : Int)) ≤ 2 * (tq _ i + cl (pa X m n i * pa Y m n i) (ln m n i : Int))
    omega
/-- the sum of which Upper is the part lies within these bounds -/
theorem ups_in (X Y : List Int) (m n : Nat) (hX : X.length = m) (hY : Y.length = m) (n1 : 1 ≤ n) (nm : n ≤ m) (n8 : n ≤ 8) (S : Int) (hS : S ≤ 32768000000)
    (bX : su sq X ≤ S) (bY : su sq Y ≤ S) : -S - 8 ≤ ups X Y m n ∧ ups X Y m n ≤ 2 * S + 362072 := by
  have r1 := rsd_in X m n hX n1 nm
  have r2 := rsd_in Y m n hY n1 nm
  have t1 := tq_fl_le X m n hX n1 nm
  have t2 := tq_fl_le Y m n hY n1 nm
  have c := tq_cl_in X Y m n n1 nm n (Nat.le_refl n)
  have s1 := cei_sq_le (n := rsd X m n) (B := 181020) r1.1 (by decide) (by omega) (by omega)
  have s2 := cei_sq_le (n := rsd Y m n) (B := 181020) r2.1 (by decide) (by omega) (by omega)
  have z1 := (Rt.cei_bd (rsd X m n)).1
  have z2 := (Rt.cei_bd (rsd Y m n)).1
  have zz := Int.mul_nonneg z1 z2
  have tm := (two_mul_le (Rt.cei (rsd X m n)) (Rt.cei (rsd Y m n))).1
  unfold ups
  omega
theorem ups_comm (X Y : List Int) (m n : Nat) : ups X Y m n = ups Y X m n := by
  unfold ups
  rw [Int.mul_comm (Rt.cei (rsd X m n))]
  congr 1
  refine tq_cong (n := n) (fun k hk => ?_) n (Nat.le_refl n)
  rw [Int.mul_comm (pa X m n k)]
/-- the squares of the centred samples -/
theorem cen_en {X : List Int} {m : Nat} (hX : X.length = m) (hs : Sam X) (m32 : m ≤ 32) : 0 ≤ (m : Int) * vr X ∧ (m : Int) * vr X ≤ (m : Int) * (m : Int) * (m : Int) * 1000000 ∧ (m : Int) * (m : Int) * (m : Int) * 1000000 ≤ 32768000000 ∧ su sq (cen X) = (m : Int) * vr X := by
  have q := sq_su_in hs
  have nn := sq_nn (su ix X)
  have v := vr_nn X
  rw [hX] at q
  have v1 : vr X ≤ (m : Int) * (m : Int) * 1000000 := by
    have a : (m : Int) * su sq X ≤ (m : Int) * (1000000 * (m : Int)) := Int.mul_le_mul_of_nonneg_left q.2 (by omega)
    have e : (m : Int) * (1000000 * (m : Int)) = (m : Int) * (m : Int) * 1000000 := by grind
    unfold vr
    rw [hX]
    omega
  have a1 : (m : Int) * (m : Int) ≤ 32 * 32 := Int.mul_le_mul (by omega) (by omega) (by omega) (by omega)
  have a2 : (m : Int) * (m : Int) * (m : Int) ≤ 1024 * 32 := Int.mul_le_mul (by omega) (by omega) (by omega) (by omega)
  refine ⟨Int.mul_nonneg (by omega) v, ?_, by omega, by rw [cen_sq, hX]⟩
  have := Int.mul_le_mul_of_nonneg_left v1 (show 0 ≤ (m : Int) by omega)
  have e : (m : Int) * ((m : Int) * (m : Int) * 1000000) = (m : Int) * (m : Int) * (m : Int) * 1000000 := by grind
  omega
/-- what Upper returns -/
def upv (X Y : List Int) (m n : Nat) : Int := ups (cen X) (cen Y) m n / (m : Int)
theorem upv_in {X Y : List Int} {m n : Nat} (hX : X.length = m) (hY : Y.length = m) (n1 : 1 ≤ n) (nm : n ≤ m) (n8 : n ≤ 8) (m2 : 2 ≤ m) (m32 : m ≤ 32) (hs : Sam X) (ht : Sam Y) :
    pr X Y ≤ upv X Y m n ∧ -2100000000 ≤ upv X Y m n ∧ upv X Y m n ≤ 2100000000 := by
  have e1 := cen_en hX hs m32
  have e2 := cen_en hY ht m32
  have cx := cen_len' X
  have cy := cen_len' Y
  have g := ups_ge (cen X) (cen Y) m n (by omega) (by omega) n1 nm m32 (by omega) (by omega)
  rw [cen_dot (by omega), hX] at g
  have b := ups_in (cen X) (cen Y) m n (by omega) (by omega) n1 nm n8 ((m : Int) * (m : Int) * (m : Int) * 1000000) e1.2.2.1 (by omega) (by omega)
  have a1 : (m : Int) * (m : Int) ≤ 32 * 32 := Int.mul_le_mul (by omega) (by omega) (by omega) (by omega)
  have p := pr_le hs ht (by omega) (by omega)
  have lo : pr X Y ≤ ups (cen X) (cen Y) m n / (m : Int) := Int.le_ediv_of_mul_le (by omega) (by rw [Int.mul_comm]; exact g)
  have hi : ups (cen X) (cen Y) m n / (m : Int) ≤ 2100000000 := by
    have h3 : (m : Int) * (m : Int) * (m : Int) ≤ 1024 * (m : Int) := Int.mul_le_mul_of_nonneg_right a1 (by omega)
    have : ups (cen X) (cen Y) m n < (2100000000 + 1) * (m : Int) := by omega
    have := Int.ediv_lt_of_lt_mul (show 0 < (m : Int) by omega) this
    omega
  unfold upv
  omega
theorem upv_comm (X Y : List Int) (m n : Nat) : upv X Y m n = upv Y X m n := by unfold upv; rw [ups_comm]
/-- the square with the sign of the number, cut at a bound -/
def sqc (c q : Int) : Int := if c < 0 then -(min (c * c) q) else min (c * c) q
theorem sqc_in {c q : Int} (h : 0 ≤ q) : -q ≤ sqc c q ∧ sqc c q ≤ q := by
  have := sq_nn c
  unfold sqc
  split <;> omega
theorem sqc_ge {c d q : Int} (h : d * d ≤ q) (hc : d ≤ c) : sg d ≤ sqc c q := by
  have n1 := sq_nn c
  have n2 := sq_nn d
  unfold sqc sg
  rcases Int.lt_or_le d 0 with h1 | h1
  · rw [if_pos h1]
    split
    · rename_i h2
      have a : (-c) * (-c) ≤ (-d) * (-d) := Int.mul_le_mul (by omega) (by omega) (by omega) (by omega)
      rw [Int.neg_mul_neg, Int.neg_mul_neg] at a
      omega
    · omega
  · rw [if_neg (by omega), if_neg (by omega)]
    have a : d * d ≤ c * c := Int.mul_le_mul hc hc h1 (by omega)
    omega
theorem sqc_eq {c q : Int} (h : c * c ≤ q) : sqc c q = sg c := by
  unfold sqc sg
  rw [Int.min_eq_left h]
/-- the numerator of the bound of the gap -/
def gM (v w c : Int) : Int := if v = 0 then (if w = 0 then 0 else 1) else if w = 0 then 1 else v * w - sqc c (v * w)
theorem gM_in {v w : Int} (c : Int) (v0 : 0 ≤ v) (w0 : 0 ≤ w) (v1 : v ≤ 1024000000) (w1 : w ≤ 1024000000) :
    0 ≤ gM v w c ∧ gM v w c ≤ 2097152000000000000 ∧ 1 ≤ gD v w ∧ gD v w ≤ 1048576000000000000 := by
  have a := vw_le v0 w0 v1 w1
  have b := sqc_in (c := c) a.1
  unfold gM gD
  rcases Classical.em (v = 0) with hv | hv
  · rw [if_pos hv, if_pos hv]
    split <;> omega
  · rw [if_neg hv, if_neg hv]
    rcases Classical.em (w = 0) with hw | hw
    · rw [if_pos hw, if_pos hw]
      omega
    · rw [if_neg hw, if_neg hw]
      have : 0 < v * w := Int.mul_pos (by omega) (by omega)
      omega
theorem gM_le {v w c d : Int} (h : d * d ≤ v * w) (hc : d ≤ c) : gM v w c ≤ gN v w d := by
  unfold gM gN
  have := sqc_ge h hc
  split
  · split <;> omega
  · split <;> omega
theorem gM_eq {v w c : Int} (h : c * c ≤ v * w) : gM v w c = gN v w c := by
  unfold gM gN
  rw [sqc_eq h]
theorem gM_swap (v w c : Int) : gM v w c = gM w v c ∧ gD v w = gD w v := by
  unfold gM gD
  rw [Int.mul_comm v w]
  constructor
  · split <;> split <;> rfl
  · split <;> split <;> rfl
/-- the reduced bound -/
def mN (v w c : Int) : Int := gM v w c / gd (gM v w c) (gD v w)
def mD (v w c : Int) : Int := gD v w / gd (gM v w c) (gD v w)
theorem m_vl {v w : Int} (c : Int) (v0 : 0 ≤ v) (w0 : 0 ≤ w) (v1 : v ≤ 1024000000) (w1 : w ≤ 1024000000) : Vl (mN v w c) (mD v w c) (gM v w c) (gD v w) := by
  have := gM_in c v0 w0 v1 w1
  exact vl_make this.1 this.2.2.1 (by omega) (by omega)
theorem r_vl {v w c : Int} (v0 : 0 ≤ v) (w0 : 0 ≤ w) (v1 : v ≤ 1024000000) (w1 : w ≤ 1024000000) (h : c * c ≤ v * w) : Vl (rN v w c) (rD v w c) (gN v w c) (gD v w) := by
  have := gap_in v0 w0 v1 w1 h
  exact vl_make this.1 this.2.2.1 (by omega) (by omega)
theorem m_swap (v w c : Int) : mN v w c = mN w v c ∧ mD v w c = mD w v c := by
  unfold mN mD
  rw [(gM_swap v w c).1, (gM_swap v w c).2]
  exact ⟨rfl, rfl⟩
theorem m_eq {v w c : Int} (h : c * c ≤ v * w) : mN v w c = rN v w c ∧ mD v w c = rD v w c := by
  unfold mN mD rN rD
  rw [gM_eq h]
  exact ⟨rfl, rfl⟩
/-- with as many pieces as samples -/
theorem st_full (m k : Nat) (m1 : 1 ≤ m) : st m m k = k := by unfold st; exact Nat.mul_div_cancel k m1
theorem pa_full (X : List Int) (m k : Nat) (hX : X.length = m) (hk : k < m) : pa X m m k = X.getD k 0 := by
  unfold pa
  rw [st_full m k (by omega), st_full m (k + 1) (by omega)]
  rw [pg_pre _ _ _ (by omega)]
  unfold pre
  rw [take_snoc X k (by omega), su_app]
  simp [su]
  omega
theorem ln_full (m k : Nat) (m1 : 1 ≤ m) : ln m m k = 1 := by unfold ln; rw [st_full m k m1, st_full m (k + 1) m1]; omega
theorem tq_dot (X Y : List Int) (h : X.length = Y.length) : ∀ k, k ≤ X.length → tq (fun k => X.getD k 0 * Y.getD k 0) k = dot (X.take k) (Y.take k)
  | 0, _ => by simp [tq, dot]
  | k + 1, hk => by
    have ih := tq_dot X Y h k (by omega)
    show tq _ k + X.getD k 0 * Y.getD k 0 = _
    rw [take_snoc X k (by omega), take_snoc Y k (by omega), dot_app _ _ _ _ (by simp; omega), ih]
    simp [dot]
theorem upv_full {X Y : List Int} {m : Nat} (hX : X.length = m) (hY : Y.length = m) (m2 : 2 ≤ m) : upv X Y m m = pr X Y := by
  have cx : (cen X).length = m := by rw [cen_len', hX]
  have cy : (cen Y).length = m := by rw [cen_len', hY]
  have z : ∀ Z : List Int, Z.length = m → rsd Z m m = 0 := fun Z hZ => by
    unfold rsd
    have : tq (fun k => pa Z m m k * pa Z m m k / (ln m m k : Int)) m = tq (fun k => Z.getD k 0 * Z.getD k 0) m :=
      tq_cong (n := m) (fun k hk => by rw [pa_full Z m k hZ hk, ln_full m k (by omega)]; simp) m (Nat.le_refl m)
    rw [this, tq_dot Z Z rfl m (by omega), List.take_of_length_le (by omega), dot_self]
    omega
  have z0 : Rt.cei 0 = 0 := by
    rw [Rt.cei_eq (by decide) (by decide) (by rw [Rt.isq_zero]; decide), Rt.isq_zero]
  unfold upv ups
  rw [z _ cx, z _ cy, z0]
  have : tq (fun k => cl (pa (cen X) m m k * pa (cen Y) m m k) (ln m m k : Int)) m = tq (fun k => (cen X).getD k 0 * (cen Y).getD k 0) m :=
    tq_cong (n := m) (fun k hk => by rw [pa_full _ m k cx hk, pa_full _ m k cy hk, ln_full m k (by omega)]; exact cl_one _) m (Nat.le_refl m)
  rw [this, tq_dot _ _ (by omega) m (by omega), List.take_of_length_le (by omega), List.take_of_length_le (by omega), cen_dot (by omega), hX]
  rw [Int.mul_zero, Int.zero_add]
  exact Int.mul_ediv_cancel_left _ (by omega)
end Go.Proofs.Ytgdhgeongdenpaa.Wi
