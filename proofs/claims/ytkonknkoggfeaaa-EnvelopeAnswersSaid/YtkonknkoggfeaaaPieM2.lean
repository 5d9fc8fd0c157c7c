/- Plain facts about the bounds by pieces: below the distances, finer pieces, shifts (layer 18): no program here. -/
import Derived.Test.YtkonknkoggfeaaaPieMath
import Derived.Test.YtkonknkoggfeaaaNorMath
namespace Go.Proofs.Ytkonknkoggfeaaa.Wi
open Ra
set_option linter.unusedVariables false
theorem su_ix (L : List Int) : su id L = su ix L := by
  induction L with
  | nil => rfl
  | cons a L ih => simp only [su, ih, id, ix]
theorem su_df (X Y : List Int) (h : X.length = Y.length) : su id (df X Y) = su id X - su id Y := by
  induction X generalizing Y with
  | nil => rcases Y with _ | ⟨y, Y⟩; rfl; simp at h
  | cons x X ih =>
    rcases Y with _ | ⟨y, Y⟩
    · simp at h
    · have := ih Y (by simpa using h)
      show (x - y) + su id (df X Y) = (x + su id X) - (y + su id Y)
      rw [this]
      omega
theorem pg_df (X Y : List Int) (h : X.length = Y.length) (a b : Nat) : pg X a b - pg Y a b = pg (df X Y) a b := by
  unfold pg
  rw [← df_drop, ← df_take, su_df]
  simp [h]
/-- the bound by pieces of a row of differences -/
def bq (D : List Int) (m n : Nat) : Int := tq (fun k => pg D (st m n k) (st m n (k + 1)) * pg D (st m n k) (st m n (k + 1)) * wq (m / n) (st m n (k + 1) - st m n k)) n
/-- what the bounds of a number of pieces are divided by -/
def cq (m n : Nat) : Int := ((m / n : Nat) : Int) * (((m / n : Nat) : Int) + 1)
theorem cq_in (m n : Nat) (n1 : 1 ≤ n) (nm : n ≤ m) (m32 : m ≤ 32) : 1 ≤ cq m n ∧ cq m n ≤ 1056 := by
  unfold cq
  have h1 : 1 ≤ m / n := Nat.div_pos nm n1
  have h2 : m / n ≤ m := Nat.div_le_self m n
  have a : ((m / n : Nat) : Int) * (((m / n : Nat) : Int) + 1) ≤ 32 * 33 := Int.mul_le_mul (by omega) (by omega) (by omega) (by omega)
  have b : 1 * 1 ≤ ((m / n : Nat) : Int) * (((m / n : Nat) : Int) + 1) := Int.mul_le_mul (by omega) (by omega) (by omega) (by omega)
  omega
theorem sz (m n k : Nat) (n1 : 1 ≤ n) : st m n k + m / n ≤ st m n (k + 1) ∧ st m n (k + 1) ≤ st m n k + m / n + 1 := st_step m n k n1
theorem sz_mul (m n k : Nat) (n1 : 1 ≤ n) : ((st m n (k + 1) - st m n k : Nat) : Int) * wq (m / n) (st m n (k + 1) - st m n k) = cq m n := by
  have h := sz m n k n1
  obtain ⟨a, ha⟩ : ∃ a, st m n k = a := ⟨_, rfl⟩
  obtain ⟨b, hb⟩ : ∃ a, st m n (k + 1) = a := ⟨_, rfl⟩
  obtain ⟨c, hc⟩ : ∃ a, m / n = a := ⟨_, rfl⟩
  unfold cq
  rw [ha, hb, hc] at h
  rw [ha, hb, hc]
  exact wq_mul (by omega) (by omega)
theorem wq_nn (l k : Nat) : 0 ≤ wq l k := by unfold wq; split <;> omega
theorem pg_cs (D : List Int) (a b : Nat) (hab : a ≤ b) (hb : b ≤ D.length) : pg D a b * pg D a b ≤ ((b - a : Nat) : Int) * su sq ((D.drop a).take (b - a)) := by
  have h := vr_nn ((D.drop a).take (b - a))
  unfold vr at h
  have hl : ((D.drop a).take (b - a)).length = b - a := by simp; omega
  rw [hl, ← su_ix] at h
  unfold pg
  omega
/-- the squares of the first numbers -/
def psq (D : List Int) (t : Nat) : Int := su sq (D.take t)
theorem psq_part (D : List Int) (a b : Nat) (h : a ≤ b) : su sq ((D.drop a).take (b - a)) = psq D b - psq D a := by
  unfold psq
  have e : D.take b = D.take a ++ (D.drop a).take (b - a) := by rw [← List.take_add, show a + (b - a) = b by omega]
  rw [e, su_append]
  omega
theorem tq_tel (f : Nat → Int) (n : Nat) : tq (fun k => f (k + 1) - f k) n = f n - f 0 := by
  induction n with
  | zero => simp [tq]
  | succ n ih => show tq (fun k => f (k + 1) - f k) n + (f (n + 1) - f n) = _; rw [ih]; omega
theorem tq_le {f g : Nat → Int} {n : Nat} (h : ∀ i, i < n → f i ≤ g i) : ∀ i, i ≤ n → tq f i ≤ tq g i := by
  intro i
  induction i with
  | zero => intro _; exact Int.le_refl _
  | succ i ih => intro hi; have h1 := ih (by omega); have h2 := h i (by omega); show tq f i + f i ≤ tq g i + g i; omega
theorem tq_mul (c : Int) (f : Nat → Int) (n : Nat) : tq (fun k => c * f k) n = c * tq f n := by
  induction n with
  | zero => simp [tq]
  | succ n ih => show tq (fun k => c * f k) n + c * f n = c * (tq f n + f n); rw [ih, Int.mul_add]
theorem tq_add (f g : Nat → Int) (n : Nat) : tq (fun k => f k + g k) n = tq f n + tq g n := by
  induction n with
  | zero => simp [tq]
  | succ n ih => show tq (fun k => f k + g k) n + (f n + g n) = (tq f n + f n) + (tq g n + g n); rw [ih]; omega
/-- the bound of pieces is at most the sum of the squares -/
theorem bq_le (D : List Int) (m n : Nat) (hD : D.length = m) (n1 : 1 ≤ n) : bq D m n ≤ su sq D * cq m n := by
  have key : bq D m n ≤ tq (fun k => cq m n * (psq D (st m n (k + 1)) - psq D (st m n k))) n := by
    unfold bq
    refine tq_le (n := n) (fun k hk => ?_) n (Nat.le_refl n)
    have h1 := pg_cs D (st m n k) (st m n (k + 1)) (st_mono m n _ _ (by omega)) (by rw [hD]; exact st_le m n _ (by omega) (by omega))
    rw [psq_part D _ _ (st_mono m n _ _ (by omega))] at h1
    have h2 := Int.mul_le_mul_of_nonneg_right h1 (wq_nn (m / n) (st m n (k + 1) - st m n k))
    have h3 := sz_mul m n k n1
    refine Int.le_trans h2 ?_
    rw [← h3, Int.mul_right_comm]
    exact Int.le_refl _
  have e := tq_tel (fun k => psq D (st m n k)) n
  have e2 : psq D (st m n n) = su sq D := by rw [st_all m n n1]; unfold psq; rw [List.take_of_length_le (by omega)]
  have e3 : psq D (st m n 0) = 0 := by rw [st_zero]; rfl
  rw [tq_mul, e, e2, e3, Int.sub_zero, Int.mul_comm] at key
  exact key
theorem bq_nn (D : List Int) (m n : Nat) : 0 ≤ bq D m n := by
  unfold bq
  exact tq_nn (n := n) (fun k _ => Int.mul_nonneg (sq_nn _) (wq_nn _ _)) n (Nat.le_refl n)
/-- numbers times a number, shifted -/
theorem pg_af (s t : Int) (D : List Int) (a b : Nat) (hab : a ≤ b) (hb : b ≤ D.length) : pg (af s t D) a b = s * pg D a b + ((b - a : Nat) : Int) * t := by
  have e : ((af s t D).drop a).take (b - a) = af s t ((D.drop a).take (b - a)) := by simp [af, List.map_take, List.map_drop]
  unfold pg
  rw [e, su_ix, su_ix, af_su]
  have hl : ((D.drop a).take (b - a)).length = b - a := by simp; omega
  rw [hl]
theorem df_af (s t u : Int) (X Y : List Int) : df (af s t X) (af s u Y) = af s (t - u) (df X Y) := by
  induction X generalizing Y with
  | nil => rfl
  | cons x X ih =>
    rcases Y with _ | ⟨y, Y⟩
    · rfl
    · have := ih Y
      show ((x * s + t) - (y * s + u)) :: df (af s t X) (af s u Y) = ((x - y) * s + (t - u)) :: af s (t - u) (df X Y)
      rw [this]
      congr 1
      grind
theorem df_cen (X Y : List Int) (h : X.length = Y.length) : df (cen X) (cen Y) = cen (df X Y) := by
  unfold cen
  rw [← h, df_af, df_len h]
  congr 1
  have := su_df X Y h
  rw [su_ix, su_ix, su_ix] at this
  omega
/-- the centred bound -/
theorem bq_cen (D : List Int) (m n : Nat) (hD : D.length = m) (n1 : 1 ≤ n) : bq (cen D) m n = (m : Int) * (m : Int) * bq D m n - (m : Int) * cq m n * (su ix D * su ix D) := by
  obtain ⟨S, hS⟩ : ∃ S, su ix D = S := ⟨_, rfl⟩
  obtain ⟨C, hC⟩ : ∃ C, cq m n = C := ⟨_, rfl⟩
  have key : bq (cen D) m n = tq (fun k => ((m : Int) * (m : Int) * (pg D (st m n k) (st m n (k + 1)) * pg D (st m n k) (st m n (k + 1)) * wq (m / n) (st m n (k + 1) - st m n k)) + (-(2 * (m : Int) * S * C)) * (pre D (st m n (k + 1)) - pre D (st m n k))) + (S * S * C) * (((st m n (k + 1) : Nat) : Int) - ((st m n k : Nat) : Int))) n := by
    unfold bq
    refine tq_cong (n := n) (fun k hk => ?_) n (Nat.le_refl n)
    have hab := st_mono m n k (k + 1) (by omega)
    have e1 : pg (cen D) (st m n k) (st m n (k + 1)) = (m : Int) * pg D (st m n k) (st m n (k + 1)) + ((st m n (k + 1) - st m n k : Nat) : Int) * (-S) := by
      unfold cen
      rw [pg_af _ _ _ _ _ hab (by rw [hD]; exact st_le m n _ (by omega) (by omega)), hD, hS]
    have e2 := sz_mul m n k n1
    have e3 := pg_pre D _ _ hab
    have e4 : ((st m n (k + 1) : Nat) : Int) - ((st m n k : Nat) : Int) = ((st m n (k + 1) - st m n k : Nat) : Int) := by omega
    show pg (cen D) (st m n k) (st m n (k + 1)) * pg (cen D) (st m n k) (st m n (k + 1)) * wq (m / n) (st m n (k + 1) - st m n k) = _
    rw [e1, ← e3, e4]
    rw [hC] at e2
    obtain ⟨z, hz⟩ : ∃ z, ((st m n (k + 1) - st m n k : Nat) : Int) = z := ⟨_, rfl⟩
    obtain ⟨y, hy⟩ : ∃ z, wq (m / n) (st m n (k + 1) - st m n k) = z := ⟨_, rfl⟩
    obtain ⟨p, hp⟩ : ∃ z, pg D (st m n k) (st m n (k + 1)) = z := ⟨_, rfl⟩
    rw [hz, hy] at e2
    rw [hz, hy, hp, ← e2]
    grind
  rw [key, tq_add, tq_add, tq_mul, tq_mul, tq_mul, tq_tel (fun k => pre D (st m n k)), tq_tel (fun k => ((st m n k : Nat) : Int)), st_all m n n1, st_zero]
  have e5 : pre D m = S := by unfold pre; rw [List.take_of_length_le (by omega), su_ix, hS]
  have e6 : pre D 0 = 0 := rfl
  rw [e5, e6]
  rw [hC, hS]
  unfold bq
  obtain ⟨Q, hQ⟩ : ∃ Q, tq (fun k => pg D (st m n k) (st m n (k + 1)) * pg D (st m n k) (st m n (k + 1)) * wq (m / n) (st m n (k + 1) - st m n k)) n = Q := ⟨_, rfl⟩
  rw [hQ]
  simp only [Int.natCast_zero, Int.sub_zero]
  grind
theorem cen_sq (D : List Int) : su sq (cen D) = (D.length : Int) * vr D := by
  rw [← dot_self, cen_dot rfl, pr_self]
theorem cen_len' (D : List Int) : (cen D).length = D.length := by unfold cen; rw [af_len]
/-- with as many pieces as numbers -/
theorem bq_all (D : List Int) (m : Nat) (hD : D.length = m) (m1 : 1 ≤ m) : bq D m m = su sq D * 2 ∧ cq m m = 2 := by
  have e0 : ∀ k, st m m k = k := fun k => by unfold st; exact Nat.mul_div_cancel k m1
  have e1 : m / m = 1 := Nat.div_self m1
  refine ⟨?_, by unfold cq; rw [e1]; rfl⟩
  have key : bq D m m = tq (fun k => 2 * (psq D (k + 1) - psq D k)) m := by
    unfold bq
    refine tq_cong (n := m) (fun k hk => ?_) m (Nat.le_refl m)
    rw [e0, e0, e1, show k + 1 - k = 1 by omega]
    have h1 : pg D k (k + 1) = D.getD k 0 := by
      rw [pg_pre D k (k + 1) (by omega)]
      unfold pre
      rw [su_next id D k (by omega)]
      show su id (D.take k) + D.getD k 0 - su id (D.take k) = _
      omega
    have h2 : psq D (k + 1) - psq D k = D.getD k 0 * D.getD k 0 := by
      unfold psq
      rw [su_next sq D k (by omega)]
      show su sq (D.take k) + D.getD k 0 * D.getD k 0 - su sq (D.take k) = _
      omega
    rw [h1, h2, show wq 1 1 = 2 from rfl]
    omega
  rw [key, tq_mul, tq_tel (fun k => psq D k)]
  have e2 : psq D m = su sq D := by unfold psq; rw [List.take_of_length_le (by omega)]
  have e3 : psq D 0 = 0 := rfl
  rw [e2, e3]
  omega
theorem tq_two (f : Nat → Int) (n : Nat) : tq f (2 * n) = tq (fun k => f (2 * k) + f (2 * k + 1)) n := by
  induction n with
  | zero => rfl
  | succ n ih =>
    show tq f (2 * n + 1 + 1) = tq (fun k => f (2 * k) + f (2 * k + 1)) n + (f (2 * n) + f (2 * n + 1))
    show tq f (2 * n) + f (2 * n) + f (2 * n + 1) = _
    rw [ih]
    omega
/-- (a + b)² / (s + t) is at most a² / s + b² / t -/
theorem two_le {a b s t w u v C K : Int} (hs : 1 ≤ s) (ht : 1 ≤ t) (hC : 1 ≤ C) (hK : 1 ≤ K) (hw : (s + t) * w = C) (hu : s * u = K) (hv : t * v = K) :
    (a + b) * (a + b) * w * K ≤ (a * a * u + b * b * v) * C := by
  have hst : 1 ≤ s * t := by have : 1 * 1 ≤ s * t := Int.mul_le_mul hs ht (by omega) (by omega); omega
  have hp : 0 < s * t * (s + t) := Int.mul_pos (by omega) (by omega)
  have hCK : 0 ≤ C * K := Int.mul_nonneg (by omega) (by omega)
  have base : 0 ≤ (a * t - b * s) * (a * t - b * s) := sq_nn _
  have h1 : (a + b) * (a + b) * (s * t) ≤ (a * a * t + b * b * s) * (s + t) := by
    have e : (a * a * t + b * b * s) * (s + t) - (a + b) * (a + b) * (s * t) = (a * t - b * s) * (a * t - b * s) := by grind
    omega
  have h2 := Int.mul_le_mul_of_nonneg_right h1 hCK
  have e1 : (a + b) * (a + b) * w * K * (s * t * (s + t)) = (a + b) * (a + b) * (s * t) * (C * K) := by rw [← hw]; grind
  have e2 : (a * a * u + b * b * v) * C * (s * t * (s + t)) = (a * a * t + b * b * s) * (s + t) * (C * K) := by
    have : (a * a * u + b * b * v) * C * (s * t * (s + t)) = (a * a * t * (s * u) + b * b * s * (t * v)) * C * (s + t) := by grind
    rw [this, hu, hv]
    grind
  rw [← e1, ← e2] at h2
  exact Int.le_of_mul_le_mul_right h2 hp
theorem st_half (m n k : Nat) (n1 : 1 ≤ n) : st m (2 * n) (2 * k) = st m n k := by
  unfold st
  rw [Nat.mul_assoc]
  exact Nat.mul_div_mul_left _ _ (by omega)
/-- finer pieces: no lesser bound -/
theorem bq_two (D : List Int) (m n : Nat) (hD : D.length = m) (n1 : 1 ≤ n) (nm : 2 * n ≤ m) (m32 : m ≤ 32) : bq D m n * cq m (2 * n) ≤ bq D m (2 * n) * cq m n := by
  obtain ⟨C, hC⟩ : ∃ C, cq m n = C := ⟨_, rfl⟩
  obtain ⟨K, hK⟩ : ∃ C, cq m (2 * n) = C := ⟨_, rfl⟩
  have c1 := (cq_in m n n1 (by omega) m32).1
  have k1 := (cq_in m (2 * n) (by omega) nm m32).1
  rw [hC] at c1
  rw [hK] at k1
  rw [hC, hK, Int.mul_comm (bq D m n), Int.mul_comm (bq D m (2 * n))]
  unfold bq
  rw [tq_two, ← tq_mul, ← tq_mul]
  refine tq_le (n := n) (fun k hk => ?_) n (Nat.le_refl n)
  have h2 := sz m (2 * n) (2 * k) (by omega)
  have h3 := sz m (2 * n) (2 * k + 1) (by omega)
  have hl : 1 ≤ m / (2 * n) := Nat.div_pos nm (by omega)
  have m1 := sz_mul m n k n1
  have m2 := sz_mul m (2 * n) (2 * k) (by omega)
  have m3 := sz_mul m (2 * n) (2 * k + 1) (by omega)
  have e0 := st_half m n k n1
  have e1 : st m (2 * n) (2 * k + 1 + 1) = st m n (k + 1) := st_half m n (k + 1) n1
  rw [e0] at h2 m2
  rw [e1] at h3 m3
  show K * (pg D (st m n k) (st m n (k + 1)) * pg D (st m n k) (st m n (k + 1)) * wq (m / n) (st m n (k + 1) - st m n k)) ≤ C * (pg D (st m (2 * n) (2 * k)) (st m (2 * n) (2 * k + 1)) * pg D (st m (2 * n) (2 * k)) (st m (2 * n) (2 * k + 1)) * wq (m / (2 * n)) (st m (2 * n) (2 * k + 1) - st m (2 * n) (2 * k)) + pg D (st m (2 * n) (2 * k + 1)) (st m (2 * n) (2 * k + 1 + 1)) * pg D (st m (2 * n) (2 * k + 1)) (st m (2 * n) (2 * k + 1 + 1)) * wq (m / (2 * n)) (st m (2 * n) (2 * k + 1 + 1) - st m (2 * n) (2 * k + 1)))
  rw [e0, e1]
  obtain ⟨M, hM⟩ : ∃ M, st m (2 * n) (2 * k + 1) = M := ⟨_, rfl⟩
  obtain ⟨A, hA⟩ : ∃ M, st m n k = M := ⟨_, rfl⟩
  obtain ⟨B, hB⟩ : ∃ M, st m n (k + 1) = M := ⟨_, rfl⟩
  rw [hM, hA] at h2 m2
  rw [hM, hB] at h3 m3
  rw [hA, hB] at m1
  rw [hM, hA, hB]
  rw [hC] at m1
  rw [hK] at m2 m3
  have ep : pg D A B = pg D A M + pg D M B := by rw [pg_pre D A B (by omega), pg_pre D A M (by omega), pg_pre D M B (by omega)]; omega
  have es : ((B - A : Nat) : Int) = ((M - A : Nat) : Int) + ((B - M : Nat) : Int) := by omega
  rw [es] at m1
  rw [ep, Int.mul_comm K, Int.mul_comm C]
  exact two_le (by omega) (by omega) c1 k1 m1 m2 m3
end Go.Proofs.Ytkonknkoggfeaaa.Wi
