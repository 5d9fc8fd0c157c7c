/- Merged: ResMath Rds UnitMath UnitConv RtM RtL Half Res1 Res2 Res3 Asc Res4 Res5 ZiS AppS SerMath Ser1 Ser4 Ser5 Ser2. -/
import Derived.Test.YtpbnabibnkohdaaGreatDoorRows
import Derived.Test.YtpbnabibnkohdaaGreatDoorGc1
import Derived.Test.YtpbnabibnkohdaaGreatDoorGc2
import Derived.Test.YtpbnabibnkohdaaGreatDoorGc3
import Derived.IntWalk
import Derived.Deep.RegionLaw
import Derived.Maps.AppendAt
import Derived.BigQuiet
import Derived.Below
import Derived.WalkLawsBesides
import Derived.WalkSpells
import Derived.Outline
import Derived.Deep.QuietTactic
import Derived.RegionTactic
import Derived.Lib.LaidTab
import Derived.Lib.Split
import Derived.Lib.SplitLaws
import Derived.Lib.SlTrimSet
import Derived.Lib.Atoi
import Derived.Lib.Hide
import Derived.Deep.RegionHeld3
import Derived.RangeFuncBox
import Derived.RangeFuncLeaves
import Derived.RangeFuncNested
import Derived.RangeFuncBound
import Derived.RangeFuncCalls
import Derived.Shelf.Abstract
import Derived.Shelf.RegionOpen
import Derived.OwnWalkIn
import Derived.TacticsInMore
import Derived.LoopNIn
import Derived.LoopIn
namespace Go.Proofs.YtpbnabibnkohdaaGreatDoor.Rm
set_option linter.unusedVariables false
abbrev Rp := Int × Int
/-- time and value of the i-th reading -/
def tm (l : List Rp) (i : Nat) : Int := (l.getD i (0, 0)).1
def vl (l : List Rp) (i : Nat) : Int := (l.getD i (0, 0)).2
def far : Int := 1099511627777
/-- how many readings at the front have a time before t -/
def lb : List Rp → Int → Nat
  | [], _ => 0
  | p :: l, t => if p.1 < t then lb l t + 1 else 0
theorem lb_eq (l : List Rp) (t : Int) (i : Nat) (h1 : ∀ j, j < i → tm l j < t) (h2 : i ≤ l.length) (h3 : i < l.length → t ≤ tm l i) : lb l t = i := by
  induction l generalizing i with
  | nil => simp at h2; subst h2; rfl
  | cons p l ih =>
    unfold lb
    rcases i with _ | i
    · have := h3 (by simp)
      simp [tm] at this
      rw [if_neg (by omega)]
    · have h0 := h1 0 (by omega)
      simp [tm] at h0
      rw [if_pos h0, ih i (fun j hj => by have := h1 (j + 1) (by omega); simpa [tm] using this) (by simpa using h2) (fun hi => by have := h3 (by simpa using hi); simpa [tm] using this)]
theorem lb_le (l : List Rp) (t : Int) : lb l t ≤ l.length := by
  induction l with
  | nil => simp [lb]
  | cons p l ih => unfold lb; split <;> simp; exact ih
theorem lb_lt (l : List Rp) (t : Int) : ∀ j, j < lb l t → tm l j < t := by
  induction l with
  | nil => intro j hj; simp [lb] at hj
  | cons p l ih =>
    intro j hj
    unfold lb at hj
    split at hj
    · rename_i h
      rcases j with _ | j
      · simpa [tm] using h
      · have := ih j (by omega)
        simpa [tm] using this
    · omega
theorem lb_ge (l : List Rp) (t : Int) (h : lb l t < l.length) : t ≤ tm l (lb l t) := by
  induction l with
  | nil => simp at h
  | cons p l ih =>
    unfold lb at h ⊢
    split
    · rename_i h2
      rw [if_pos h2] at h
      have := ih (by simpa using h)
      simpa [tm] using this
    · rename_i h2
      simp [tm]
      omega
/-- readings of the reader's make: times ascend -/
def Asc (l : List Rp) : Prop := (∀ i, i < l.length → 0 ≤ tm l i ∧ tm l i ≤ 1099511627776 ∧ -1000 ≤ vl l i ∧ vl l i ≤ 1000) ∧ (∀ i, i + 1 < l.length → tm l i < tm l (i + 1))
theorem Asc.lt {l : List Rp} (h : Asc l) {i j : Nat} (hij : i < j) (hj : j < l.length) : tm l i < tm l j := by
  induction j with
  | zero => omega
  | succ j ih =>
    have := h.2 j hj
    rcases Nat.lt_or_ge i j with h2 | h2
    · have := ih h2 (by omega); omega
    · obtain rfl : i = j := by omega
      exact this
theorem Asc.ge {l : List Rp} (h : Asc l) (t : Int) {j : Nat} (hj : lb l t ≤ j) (hl : j < l.length) : t ≤ tm l j := by
  have := lb_ge l t (by omega)
  rcases Nat.lt_or_ge (lb l t) j with h2 | h2
  · have := h.lt h2 hl; omega
  · rw [show j = lb l t by omega]; exact this
def flr (a b : Int) : Int := a / b
/-- the nearest integer, halves up -/
def hup (a b : Int) : Int := (2 * a + b) / (2 * b)
def bck (l : List Rp) (t : Int) : Int := if 0 < lb l t then t - tm l (lb l t - 1) else far
def ahd (l : List Rp) (t : Int) : Int := if lb l t < l.length then tm l (lb l t) - t else far
def bv (l : List Rp) (t : Int) : Int := if 0 < lb l t then vl l (lb l t - 1) else 0
def av (l : List Rp) (t : Int) : Int := if lb l t < l.length then vl l (lb l t) else 0
/-- the value at a time -/
def val (l : List Rp) (rule reach t : Int) : Int × Bool :=
  if lb l t < l.length ∧ tm l (lb l t) = t then (vl l (lb l t), true)
  else if rule = 1 then (if bck l t ≤ reach then (bv l t, true) else (0, false))
  else if rule = 2 then (if bck l t ≤ ahd l t ∧ bck l t ≤ reach then (bv l t, true) else if ahd l t < bck l t ∧ ahd l t ≤ reach then (av l t, true) else (0, false))
  else if rule = 3 then (if bck l t ≤ reach ∧ ahd l t ≤ reach then (hup (bv l t * ahd l t + av l t * bck l t) (bck l t + ahd l t), true) else (0, false))
  else (0, false)
theorem bck_in {l : List Rp} (h : Asc l) {t : Int} (h0 : 0 ≤ t) (h1 : t ≤ 1099511627776) : 1 ≤ bck l t ∧ bck l t ≤ 1099511627777 := by
  unfold bck far
  have := lb_le l t
  split
  · rename_i h2
    have a := lb_lt l t (lb l t - 1) (by omega)
    have b := h.1 (lb l t - 1) (by omega)
    omega
  · omega
theorem ahd_in {l : List Rp} (h : Asc l) {t : Int} (h0 : 0 ≤ t) (h1 : t ≤ 1099511627776) : 0 ≤ ahd l t ∧ ahd l t ≤ 1099511627777 := by
  unfold ahd far
  split
  · rename_i h2
    have a := lb_ge l t h2
    have b := h.1 (lb l t) h2
    omega
  · omega
/-- a reading at this very time -/
theorem lb_at {l : List Rp} (h : Asc l) {i : Nat} (hi : i < l.length) : lb l (tm l i) = i :=
  lb_eq l _ i (fun j hj => h.lt hj hi) (by omega) (fun _ => Int.le_refl _)
theorem val_at {l : List Rp} (h : Asc l) {i : Nat} (hi : i < l.length) (rule reach : Int) : val l rule reach (tm l i) = (vl l i, true) := by
  unfold val
  rw [lb_at h hi, if_pos ⟨hi, rfl⟩]
/-- a greater reach changes no value that is there -/
theorem val_reach (l : List Rp) (rule r r' t : Int) (hr : r ≤ r') (h : (val l rule r t).2 = true) : val l rule r' t = val l rule r t := by
  unfold val at h ⊢
  split
  · rfl
  · rename_i h0
    rw [if_neg h0] at h
    split
    · rename_i h1
      rw [if_pos h1] at h
      split at h
      · rename_i h2
        rw [if_pos (by omega), if_pos h2]
      · cases h
    · rename_i h1
      rw [if_neg h1] at h
      split
      · rename_i h1
        rw [if_pos h1] at h
        split at h
        · rename_i h2
          rw [if_pos (by omega), if_pos h2]
        · rename_i h2
          split at h
          · rename_i h3
            rw [if_neg (by omega), if_pos (by omega), if_neg h2, if_pos h3]
          · cases h
      · rename_i h1
        rw [if_neg h1] at h
        split
        · rename_i h1
          rw [if_pos h1] at h
          split at h
          · rename_i h2
            rw [if_pos (by omega), if_pos h2]
          · cases h
        · rfl
/-- Hold: a reading at most so far back -/
theorem val_hold {l : List Rp} (h : Asc l) {t : Int} (h0 : 0 ≤ t) (h1 : t ≤ 1099511627776) {r : Int} (r0 : 0 ≤ r) (r1 : r ≤ 1000) : (val l 1 r t).2 = true ↔ ∃ i, i < l.length ∧ 0 ≤ t - tm l i ∧ t - tm l i ≤ r := by
  have hle := lb_le l t
  unfold val
  split
  · rename_i h2
    exact ⟨fun _ => ⟨lb l t, h2.1, by omega⟩, fun _ => rfl⟩
  · rename_i h2
    rw [if_pos rfl]
    constructor
    · intro h3
      split at h3
      · rename_i h4
        unfold bck far at h4
        split at h4
        · have := lb_lt l t (lb l t - 1) (by omega)
          exact ⟨lb l t - 1, by omega, by omega, h4⟩
        · omega
      · cases h3
    · rintro ⟨i, hi, a, b⟩
      have hil : i < lb l t := by
        rcases Nat.lt_or_ge i (lb l t) with h3 | h3
        · exact h3
        · have e := h.ge t h3 hi
          have := lb_at h hi
          rw [show tm l i = t by omega] at this
          exact absurd ⟨by omega, by rw [this]; omega⟩ h2
      have : bck l t ≤ r := by
        unfold bck
        rw [if_pos (by omega)]
        rcases Nat.lt_or_ge i (lb l t - 1) with h3 | h3
        · have := h.lt h3 (by omega); omega
        · rw [show lb l t - 1 = i by omega]; exact b
      rw [if_pos this]
/-- Nearest: some reading so near -/
theorem val_near {l : List Rp} (h : Asc l) {t : Int} (h0 : 0 ≤ t) (h1 : t ≤ 1099511627776) {r : Int} (r0 : 0 ≤ r) (r1 : r ≤ 1000) : (val l 2 r t).2 = true ↔ ∃ i, i < l.length ∧ t - tm l i ≤ r ∧ tm l i - t ≤ r := by
  have hle := lb_le l t
  unfold val
  split
  · rename_i h2
    exact ⟨fun _ => ⟨lb l t, h2.1, by omega, by omega⟩, fun _ => rfl⟩
  · rename_i h2
    rw [if_neg (by decide), if_pos rfl]
    have hb : bck l t ≤ r → ∃ i, i < l.length ∧ t - tm l i ≤ r ∧ tm l i - t ≤ r := fun h4 => by
      unfold bck far at h4
      split at h4
      · have := lb_lt l t (lb l t - 1) (by omega)
        exact ⟨lb l t - 1, by omega, by omega, by omega⟩
      · omega
    have ha : ahd l t ≤ r → ∃ i, i < l.length ∧ t - tm l i ≤ r ∧ tm l i - t ≤ r := fun h4 => by
      unfold ahd far at h4
      split at h4
      · rename_i h5
        have := lb_ge l t h5
        exact ⟨lb l t, h5, by omega, by omega⟩
      · omega
    constructor
    · intro h3
      split at h3
      · rename_i h4
        exact hb h4.2
      · split at h3
        · rename_i h4
          exact ha h4.2
        · cases h3
    · rintro ⟨i, hi, a, b⟩
      have hor : bck l t ≤ r ∨ ahd l t ≤ r := by
        rcases Nat.lt_or_ge i (lb l t) with h3 | h3
        · refine .inl ?_
          unfold bck
          rw [if_pos (by omega)]
          rcases Nat.lt_or_ge i (lb l t - 1) with h4 | h4
          · have := h.lt h4 (by omega); omega
          · rw [show lb l t - 1 = i by omega]; exact a
        · refine .inr ?_
          unfold ahd
          rw [if_pos (by omega)]
          rcases Nat.lt_or_ge (lb l t) i with h4 | h4
          · have := h.lt h4 hi; omega
          · rw [show lb l t = i by omega]; exact b
      split
      · rfl
      · rename_i h4
        rw [if_pos (by omega)]
/-- Linear only where Hold and Nearest have one -/
theorem val_lin {l : List Rp} {t r : Int} (h : (val l 3 r t).2 = true) : (val l 1 r t).2 = true ∧ (val l 2 r t).2 = true := by
  unfold val at h ⊢
  split
  · exact ⟨rfl, rfl⟩
  · rename_i h2
    rw [if_neg h2, if_neg (by decide), if_neg (by decide), if_pos rfl] at h
    split at h
    · rename_i h3
      refine ⟨by rw [if_pos rfl, if_pos h3.1], ?_⟩
      rw [if_neg (by decide), if_pos rfl]
      split
      · rfl
      · rw [if_pos (by omega)]
    · cases h
/-- all moved by a time -/
def mv (l : List Rp) (b : Int) : List Rp := l.map fun p => (p.1 + b, p.2)
theorem mv_len (l : List Rp) (b : Int) : (mv l b).length = l.length := by simp [mv]
theorem mv_tm (l : List Rp) (b : Int) (i : Nat) (h : i < l.length) : tm (mv l b) i = tm l i + b := by
  simp [tm, mv, List.getD_eq_getElem?_getD, h]
theorem mv_vl (l : List Rp) (b : Int) (i : Nat) : vl (mv l b) i = vl l i := by
  rcases Nat.lt_or_ge i l.length with h | h <;> simp [vl, mv, List.getD_eq_getElem?_getD, h]
theorem mv_lb (l : List Rp) (b t : Int) : lb (mv l b) (t + b) = lb l t := by
  induction l with
  | nil => rfl
  | cons p l ih =>
    have e : mv (p :: l) b = (p.1 + b, p.2) :: mv l b := rfl
    rw [e]
    unfold lb
    rw [ih]
    by_cases h : p.1 < t
    · rw [if_pos h, if_pos (show p.1 + b < t + b by omega)]
    · rw [if_neg h, if_neg (show ¬ p.1 + b < t + b by omega)]
theorem mv_val (l : List Rp) (b rule reach t : Int) : val (mv l b) rule reach (t + b) = val l rule reach t := by
  have hle := lb_le l t
  have e1 : bck (mv l b) (t + b) = bck l t := by
    unfold bck
    rw [mv_lb]
    split
    · rw [mv_tm _ _ _ (by omega)]; omega
    · rfl
  have e2 : ahd (mv l b) (t + b) = ahd l t := by
    unfold ahd
    rw [mv_lb, mv_len]
    split
    · rename_i h; rw [mv_tm _ _ _ h]; omega
    · rfl
  have e3 : bv (mv l b) (t + b) = bv l t := by
    unfold bv
    rw [mv_lb]
    split
    · rw [mv_vl]
    · rfl
  have e4 : av (mv l b) (t + b) = av l t := by
    unfold av
    rw [mv_lb, mv_len]
    split
    · rw [mv_vl]
    · rfl
  unfold val
  rw [e1, e2, e3, e4, mv_lb, mv_len, mv_vl]
  by_cases h : lb l t < l.length ∧ tm l (lb l t) = t
  · rw [if_pos h, if_pos ⟨h.1, by rw [mv_tm _ _ _ h.1]; omega⟩]
  · rw [if_neg h, if_neg (fun k => h ⟨k.1, by have := k.2; rw [mv_tm _ _ _ k.1] at this; omega⟩)]
/-- the line between two readings: in range, one direction, at most half a sample away -/
theorem hup_rest {a n : Int} (hn : 0 < n) : 2 * (a - hup a n * n) < n ∧ -n ≤ 2 * (a - hup a n * n) := by
  unfold hup
  have h1 := Int.emod_add_mul_ediv (2 * a + n) (2 * n)
  have h2 := Int.emod_nonneg (2 * a + n) (b := 2 * n) (by omega)
  have h3 := Int.emod_lt_of_pos (2 * a + n) (b := 2 * n) (by omega)
  generalize (2 * a + n) / (2 * n) = q at *
  have e : 2 * n * q = 2 * (q * n) := by grind
  rw [e] at h1
  omega
theorem hup_mono {a b n : Int} (hn : 0 < n) (h : a ≤ b) : hup a n ≤ hup b n := Int.ediv_le_ediv (by omega) (by omega)
theorem hup_mul (q : Int) {n : Int} (hn : 0 < n) : hup (q * n) n = q := by
  have h := hup_rest (a := q * n) hn
  generalize hup (q * n) n = u at *
  have e : q * n - u * n = (q - u) * n := by grind
  rw [e] at h
  rcases Int.lt_trichotomy (q - u) 0 with g | g | g
  · have := Int.mul_le_mul_of_nonneg_right (show q - u ≤ -1 by omega) (show 0 ≤ n by omega)
    omega
  · omega
  · have := Int.mul_le_mul_of_nonneg_right (show 1 ≤ q - u by omega) (show 0 ≤ n by omega)
    omega
/-- the numerator on the line -/
def nu (p q n k : Int) : Int := p * (n - k) + q * k
theorem nu_eq (p q n k : Int) : nu p q n k = p * n + (q - p) * k := by unfold nu; grind
theorem nu_up {p q n k : Int} (h : p ≤ q) (k0 : 0 ≤ k) (kn : k + 1 ≤ n) : p * n ≤ nu p q n k ∧ nu p q n k ≤ nu p q n (k + 1) ∧ nu p q n (k + 1) ≤ q * n := by
  rw [nu_eq, nu_eq]
  have h1 := Int.mul_nonneg (show 0 ≤ q - p by omega) k0
  have h2 := Int.mul_le_mul_of_nonneg_left kn (show 0 ≤ q - p by omega)
  have e : (q - p) * (k + 1) = (q - p) * k + (q - p) := by grind
  have e2 : (q - p) * n = q * n - p * n := by grind
  omega
theorem nu_dn {p q n k : Int} (h : q ≤ p) (k0 : 0 ≤ k) (kn : k + 1 ≤ n) : q * n ≤ nu p q n (k + 1) ∧ nu p q n (k + 1) ≤ nu p q n k ∧ nu p q n k ≤ p * n := by
  rw [nu_eq, nu_eq]
  have h1 := Int.mul_nonneg (show 0 ≤ p - q by omega) k0
  have h2 := Int.mul_le_mul_of_nonneg_left kn (show 0 ≤ p - q by omega)
  have e : (p - q) * (k + 1) = (p - q) * k + (p - q) := by grind
  have e2 : (p - q) * n = p * n - q * n := by grind
  have e3 : (q - p) * k = -((p - q) * k) := by grind
  have e4 : (q - p) * (k + 1) = -((p - q) * (k + 1)) := by grind
  omega
theorem line_at {p q n k : Int} (hn : 1 ≤ n) (k0 : 0 ≤ k) (kn : k ≤ n) : val [(100, p), (100 + n, q)] 3 n (100 + k) = (hup (nu p q n k) n, true) := by
  have hz : hup (nu p q n 0) n = p := by rw [nu_eq, Int.mul_zero, Int.add_zero, hup_mul _ (by omega)]
  have hne : hup (nu p q n n) n = q := by rw [nu_eq, show p * n + (q - p) * n = q * n by grind, hup_mul _ (by omega)]
  rcases Int.lt_or_le 0 k with h | h
  · rcases Int.lt_or_le k n with h2 | h2
    · have e : lb [(100, p), (100 + n, q)] (100 + k) = 1 := lb_eq _ _ 1 (fun j hj => by obtain rfl : j = 0 := by omega
                                                                                        simp [tm]; omega) (by simp) (fun _ => by simp [tm]; omega)
      have e1 : bck [(100, p), (100 + n, q)] (100 + k) = k := by unfold bck; rw [e, if_pos (by omega)]; simp [tm]; omega
      have e2 : ahd [(100, p), (100 + n, q)] (100 + k) = n - k := by unfold ahd; rw [e, if_pos (by simp)]; simp [tm]; omega
      have e3 : bv [(100, p), (100 + n, q)] (100 + k) = p := by unfold bv; rw [e, if_pos (by omega)]; simp [vl]
      have e4 : av [(100, p), (100 + n, q)] (100 + k) = q := by unfold av; rw [e, if_pos (by simp)]; simp [vl]
      unfold val
      rw [e1, e2, e3, e4, e, if_neg (fun h => by have := h.2; simp [tm] at this; omega), if_neg (by decide), if_neg (by decide), if_pos rfl, if_pos ⟨by omega, by omega⟩, show k + (n - k) = n by omega]
      rfl
    · obtain rfl : k = n := by omega
      have e : lb [(100, p), (100 + k, q)] (100 + k) = 1 := lb_eq _ _ 1 (fun j hj => by obtain rfl : j = 0 := by omega
                                                                                        simp [tm]; omega) (by simp) (fun _ => by simp [tm])
      unfold val
      rw [e, if_pos ⟨by simp, by simp [tm]⟩, hne]
      simp [vl]
  · obtain rfl : k = 0 := by omega
    have e : lb [(100, p), (100 + n, q)] (100 + 0) = 0 := lb_eq _ _ 0 (fun j hj => by omega) (by simp) (fun _ => by simp [tm])
    unfold val
    rw [e, if_pos ⟨by simp, by simp [tm]⟩, hz]
    simp [vl]
end Go.Proofs.YtpbnabibnkohdaaGreatDoor.Rm
namespace Go.Proofs.YtpbnabibnkohdaaGreatDoor.Rg
open Go.ChangeShapes Go.WideShapes Go.RowKit Wo Sr Wi Rm
set_option linter.unusedVariables false
/-- readings, flat -/
def rs (l : List Rp) : List Value := l.flatMap fun p => [.int .i64 p.1, .int .i64 p.2]
theorem rs_cons (p : Rp) (l : List Rp) : rs (p :: l) = .int .i64 p.1 :: .int .i64 p.2 :: rs l := rfl
theorem rs_len (l : List Rp) : (rs l).length = l.length * 2 := by
  induction l with
  | nil => rfl
  | cons p l ih => rw [rs_cons, List.length_cons, List.length_cons, ih, List.length_cons]; omega
theorem rs_app (a b : List Rp) : rs (a ++ b) = rs a ++ rs b := by simp [rs]
theorem rs_at (l : List Rp) (i : Nat) (h : i < l.length) : (rs l)[i * 2]? = some (.int .i64 (tm l i)) ∧ (rs l)[i * 2 + 1]? = some (.int .i64 (vl l i)) := by
  induction l generalizing i with
  | nil => simp at h
  | cons p l ih =>
    rcases i with _ | i
    · exact ⟨rfl, rfl⟩
    · have := ih i (by simpa using h)
      rw [rs_cons, show (i + 1) * 2 = i * 2 + 1 + 1 by omega]
      simpa [tm, vl] using this
/-- a slice that reads as these readings -/
def Zr (w : World) (A : Option Addr) (n : Nat) (l : List Rp) : Prop := l.length = n ∧ (0 < n → ∃ g : Nat, A = some ⟨g, 0, none⟩ ∧ g < w.heap.size ∧ ∀ j, j < n → w.cell? ⟨g, j * 2, none⟩ = some (.int .i64 (tm l j)) ∧ w.cell? ⟨g, j * 2 + 1, none⟩ = some (.int .i64 (vl l j)))
theorem Zr.bel {w w' : World} {A : Option Addr} {n : Nat} {l : List Rp} (h : Zr w A n l) (hb : Bel w w') : Zr w' A n l :=
  ⟨h.1, fun hn => by
    obtain ⟨ad, e, hx, hc⟩ := h.2 hn
    exact ⟨ad, e, by have := hb.size; omega, fun j hj => ⟨hb.kp (hc j hj).1, hb.kp (hc j hj).2⟩⟩⟩
theorem Zr.at {w : World} {g n : Nat} {l : List Rp} (h : Zr w (some ⟨g, 0, none⟩) n l) (j : Nat) (hj : j < n) : w.cell? ⟨g, j * 2, none⟩ = some (.int .i64 (tm l j)) ∧ w.cell? ⟨g, j * 2 + 1, none⟩ = some (.int .i64 (vl l j)) := by
  obtain ⟨ad, e, _, hc⟩ := h.2 (by omega)
  cases e
  exact hc j hj
theorem Zr.ch {w w' : World} {A : Option Addr} {n g : Nat} {l : List Rp} (h : Zr w A n l) (hc : Ch g w w') (hn : ∀ k, A = some ⟨k, 0, none⟩ → k ≠ g) : Zr w' A n l :=
  ⟨h.1, fun h0 => by
    obtain ⟨ad, e, hx, hcc⟩ := h.2 h0
    exact ⟨ad, e, by have := hc.sz; omega, fun j hj => ⟨hc.kp (hcc j hj).1 (hn ad e), hc.kp (hcc j hj).2 (hn ad e)⟩⟩⟩
theorem zr_bk {w : World} {h : Nat} {t : TypeId} {l : List Rp} (hb : Bk w h t (rs l).toArray) (n : Nat) (hn : l.length = n) : Zr w (some ⟨h, 0, none⟩) n l := by
  subst hn
  refine ⟨rfl, fun _ => ⟨_, rfl, hb.lt, fun j hj => ?_⟩⟩
  have e := rs_at l j hj
  rw [hb.cell, hb.cell]
  simpa using e
theorem rrow_form {w : World} {base n : Nat} {v : Value} {l : List Rp} (h : w.ownsRow base 100 2 v n (rs l)) (hn : 0 < n) : ∃ g c, v = .slice (some ⟨g, 0, none⟩) n c ∧ n ≤ c ∧ base ≤ g := by
  rcases h.2 with ⟨_, h0⟩ | ⟨g, cap, cur, hv, hb, hg, h1, _⟩
  · omega
  · exact ⟨g, cap, hv, h1, hb⟩
theorem own_zr {w : World} {base k : Nat} {v : Value} {l : List Rp} (hr : w.ownsRow base 100 2 v k (rs l)) (hk : l.length = k) : ∃ A c, v = .slice A k c ∧ Zr w A k l := by
  rcases hr.2 with ⟨rfl, rfl⟩ | ⟨g, cap, cur, rfl, hb, hg, rest⟩
  · exact ⟨none, 0, rfl, hk, fun h => by omega⟩
  · refine ⟨_, cap, rfl, hk, fun hn => ⟨_, rfl, (hr.lt g rfl).2, fun j hj => ?_⟩⟩
    have e := rs_at l j (by omega)
    have h1 := hr.cells (g := g) rfl _ _ e.1
    have h2 := hr.cells (g := g) rfl _ _ e.2
    rw [add_row] at h1 h2
    exact ⟨h1, h2⟩
theorem info_reading : (Tryz.prog.info? 100).map (fun i => (i.zero, i.size, i.bytes)) = some (some (.agg #[.int .i64 0, .int .i64 0]), 2, 16) := by kernel_rfl
theorem wp_appr (w : World) {o : Oper} {a : Act} {K : Act → World → Prop} {Q : Exit → Act → World → Prop} (s x : Operand)
    (ho : o.op = .call { callee := .builtin .append, args := #[s, x], argTypes := #[61, 61] })
    (base : Nat) (v : Value) (n : Nat) (l : List Rp) (hs : a.eval s = v) (hown : w.ownsRow base 100 2 v n (rs l)) (g c : Nat) (p : Rp) (hx : a.eval x = .slice (some ⟨g, 0, none⟩) 1 c)
    (hM : Bk w g 100 #[.int .i64 p.1, .int .i64 p.2]) (hn : n ≤ 100000) (hbase : base ≤ w.heap.size)
    (h : ∀ v' w', w'.ownsRow base 100 2 v' (n + 1) (rs (l ++ [p])) → w.grownBy w' v.ownBlock → (v'.ownBlock = v.ownBlock ∨ v'.ownBlock = some w.heap.size) → K (a.put o.dst v') w') : o.wp Tryz.prog a w K Q := by
  obtain ⟨i0, hi0, hz0, hz1, hz2⟩ := info_parts info_reading
  obtain ⟨v', w', hr, h2, h3, _, h5⟩ := run_append_own_at (P := Tryz.prog) w base 61 o.type 100 i0 (.agg #[.int .i64 0, .int .i64 0]) 2 16 Tryz.underlying61 hi0 hz0 hz1 hz2 (by rfl) (by omega) v n (rs l) hown ⟨g, 0, none⟩ 1 c (rs [p]) (by rfl) (by
    intro j u hu
    rw [add_row, Bk.cell (t := 100) hM j]
    have e : rs [p] = [.int .i64 p.1, .int .i64 p.2] := rfl
    rw [e] at hu
    simpa using hu) (by intro u hu; simp [rs] at hu; rcases hu with rfl | rfl <;> rfl) (by unfold maxLen; omega) (by omega) hbase
  unfold Oper.wp execOp
  simp only [ho, resolve, invoke, builtin, Sem.run_bind, Sem.run_pure, Result.andThen_ok, List.map_toArray, List.map_cons, List.map_nil, hs, hx, hr]
  exact h v' w' (by rw [rs_app]; exact h2) h3 h5
/-- at a step of a region that draws its order -/
theorem step_appr (w : World) {ops : Array Oper} {o : Oper} {a : Act} {K : Act → World → Prop} {Q : Exit → Act → World → Prop} {E : Prop} (hgd : o.guard = none) (s x : Operand)
    (ho : o.op = .call { callee := .builtin .append, args := #[s, x], argTypes := #[61, 61] })
    (base : Nat) (v : Value) (n : Nat) (l : List Rp) (hs : a.eval s = v) (hown : w.ownsRow base 100 2 v n (rs l)) (g c : Nat) (p : Rp) (hx : a.eval x = .slice (some ⟨g, 0, none⟩) 1 c)
    (hM : Bk w g 100 #[.int .i64 p.1, .int .i64 p.2]) (hn : n ≤ 100000) (hbase : base ≤ w.heap.size)
    (h : ∀ v' w', w'.ownsRow base 100 2 v' (n + 1) (rs (l ++ [p])) → w.grownBy w' v.ownBlock → (v'.ownBlock = v.ownBlock ∨ v'.ownBlock = some w.heap.size) → K (a.put o.dst v') w') :
    if Region.wanted o (yielded ops a.tmps) = true then Oper.wp Tryz.prog o a w K Q else E := by
  have hw : Region.wanted o (yielded ops a.tmps) = true := by simp [Region.wanted, hgd]
  rw [if_pos hw]
  exact wp_appr w s x ho base v n l hs hown g c p hx hM hn hbase h
/-- at the list of a plain region -/
theorem list_appr (w : World) {ops : Array Oper} {rest : List Oper} {o : Oper} {a : Act} {Q : Exit → Act → World → Prop} (hgd : o.guard = none) (s x : Operand)
    (ho : o.op = .call { callee := .builtin .append, args := #[s, x], argTypes := #[61, 61] })
    (base : Nat) (v : Value) (n : Nat) (l : List Rp) (hs : a.eval s = v) (hown : w.ownsRow base 100 2 v n (rs l)) (g c : Nat) (p : Rp) (hx : a.eval x = .slice (some ⟨g, 0, none⟩) 1 c)
    (hM : Bk w g 100 #[.int .i64 p.1, .int .i64 p.2]) (hn : n ≤ 100000) (hbase : base ≤ w.heap.size)
    (h : ∀ v' w', w'.ownsRow base 100 2 v' (n + 1) (rs (l ++ [p])) → w.grownBy w' v.ownBlock → (v'.ownBlock = v.ownBlock ∨ v'.ownBlock = some w.heap.size) → wpList Tryz.prog ops Q rest (a.put o.dst v') w') : wpList Tryz.prog ops Q (o :: rest) a w :=
  wpList_plain hgd fun _ hK => wp_appr w s x ho base v n l hs hown g c p hx hM hn hbase fun v' w' h2 h3 h5 => hK _ _ (h v' w' h2 h3 h5)
/-- a valid reading -/
def Vr (t v : Int) : Prop := 0 ≤ t ∧ t ≤ 1099511627776 ∧ -1000 ≤ v ∧ v ≤ 1000
theorem reading_ok (t v : Int) (h : Vr t v) (w : World) : Calls Tryz.prog 116 #[.agg #[.int .i64 t, .int .i64 v]] w fun e w' => e = .returned (.bool true) ∧ Bel w w' := by
  obtain ⟨h1, h2, h3, h4⟩ := h
  go_enter Tryz.func116, Tryz.ntmps116
  go_wp2_with (go_at_call 69; refine (sample_ok v h3 h4 _).mono ?_; rintro e w' ⟨rfl, rfl⟩)
  go_ret
  exact ⟨rfl, by first | exact Bel.rf | exact Bel.rf.al _ | exact (Bel.rf.al _).drwN _⟩
def Vrs (l : List Rp) : Prop := ∀ i, i < l.length → Vr (tm l i) (vl l i)
set_option maxHeartbeats 4000000 in
theorem readings_ok (A : Option Addr) (c n : Nat) (l : List Rp) (hn : n ≤ 2000) (hs : Vrs l) (w : World) (h : Zr w A n l) :
    Calls Tryz.prog 87 #[.slice A n c] w fun e w' => e = .returned (.int .i64 0) ∧ Bel w w' := by
  have H1 := Lib.hid h
  have HS := Lib.hid hs
  have ni : (n : Int) ≤ 2000 := by omega
  clear h hs
  go_enter Tryz.func87, Tryz.ntmps87
  go_wp2
  go_loopw [10] (fun s7 wr => ∃ (k : Nat) (V : World), V = wr ∧ k ≤ n ∧ s7 = .int .i64 (k : Int) ∧ Bel w wr) (fun s7 _ => n - (intOf s7).toNat)
  case atStart => exact ⟨0, _, rfl, by omega, rfl, Bel.rf⟩
  case round =>
    obtain ⟨k, wr, hwr, hk, rfl, hb⟩ := hrel
    subst hwr
    have HB := Lib.hid hb
    rcases Nat.lt_or_ge k n with hlt | hge
    · obtain ⟨ad, rfl, hab, hac⟩ := (H1.out.bel hb).2 (by omega)
      obtain ⟨c1, c2⟩ := hac k hlt
      have hx := HS.out k (by rw [H1.out.1]; exact hlt)
      obtain ⟨x, hxe⟩ : ∃ x, tm l k = x := ⟨_, rfl⟩
      obtain ⟨y, hye⟩ : ∃ x, vl l k = x := ⟨_, rfl⟩
      rw [hxe] at c1 hx
      rw [hye] at c2 hx
      have HX := Lib.hid hx
      have ki : (k : Int) < (n : Int) := by omega
      clear hb hac hab hxe hye hx
      go_wp2_with (go_at_call 116; refine (reading_ok x y HX.out _).mono ?_; rintro e w' ⟨rfl, hbr⟩)
      go_roundw
      case rel => exact ⟨k + 1, _, rfl, by omega, by go_num, by first | exact HB.out.tr hbr | exact (HB.out.drwN _).tr hbr | exact HB.out.drw.tr hbr | exact ((HB.out.al _).drwN _).tr hbr | exact (HB.out.al _).tr hbr⟩
      case measure => simp [intOf]; omega
    · obtain rfl : k = n := by omega
      clear hb
      go_wp2
      go_ret
      exact ⟨rfl, HB.out⟩
end Go.Proofs.YtpbnabibnkohdaaGreatDoor.Rg
namespace Go.Proofs.YtpbnabibnkohdaaGreatDoor.Un
set_option linter.unusedVariables false
/-- Go's quotient and rest against the rounded-down ones -/
theorem fl_parts (a b : Int) (hb : 1 ≤ b) : (a.tmod b < 0 → a.tdiv b - 1 = a / b) ∧ (0 ≤ a.tmod b → a.tdiv b = a / b) ∧ -b < a.tmod b ∧ a.tmod b < b := by
  have e := Int.mul_tdiv_add_tmod a b
  have h1 : a.tmod b < b := Int.tmod_lt_of_pos a (by omega)
  have h2 : -b < a.tmod b := by
    rcases Int.lt_or_le a 0 with h | h
    · have := Int.neg_tmod (a := -a) (b := b)
      rw [Int.neg_neg] at this
      have k := Int.tmod_lt_of_pos (-a) (b := b) (by omega)
      omega
    · have := Int.tmod_nonneg b h
      omega
  generalize a.tdiv b = t at *
  generalize a.tmod b = m at *
  subst e
  refine ⟨fun h => ?_, fun h => ?_, h2, h1⟩
  · have : b * t + m = (b + m) + b * (t - 1) := by grind
    rw [this, Int.add_mul_ediv_left _ _ (by omega), Int.ediv_eq_zero_of_lt (by omega) (by omega)]
    omega
  · rw [Int.add_comm, Int.add_mul_ediv_left _ _ (by omega), Int.ediv_eq_zero_of_lt h h1]
    omega
theorem td_bound (a b M : Int) (hb : 1 ≤ b) (h0 : -M ≤ a) (h1 : a ≤ M) : -M ≤ a.tdiv b ∧ a.tdiv b ≤ M := by
  have e := Int.mul_tdiv_add_tmod a b
  have hs := fl_parts a b hb
  have hm : (0 ≤ a → 0 ≤ a.tmod b) ∧ (a < 0 → a.tmod b ≤ 0) := by
    constructor
    · intro h; exact Int.tmod_nonneg b h
    · intro h
      have := Int.neg_tmod (a := -a) (b := b)
      rw [Int.neg_neg] at this
      have k := Int.tmod_nonneg b (show 0 ≤ -a by omega)
      omega
  generalize a.tdiv b = t at *
  generalize a.tmod b = m at *
  have hbt : (0 ≤ t → t ≤ b * t) ∧ (t ≤ 0 → b * t ≤ t) := by
    constructor
    · intro h; have := Int.mul_le_mul_of_nonneg_right hb h; omega
    · intro h; have := Int.mul_le_mul_of_nonneg_right hb (show 0 ≤ -t by omega); have e2 : b * -t = -(b * t) := by grind
      omega
  rcases Int.lt_or_le t 0 with ht | ht
  · have := hbt.2 (by omega)
    rcases Int.lt_or_le a 0 with ha | ha
    · have := hm.2 ha
      have := hs.2.2
      constructor
      · rcases Int.lt_or_le t (-M) with hx | hx
        · have hq : b * t ≤ b * (-M - 1) := Int.mul_le_mul_of_nonneg_left (by omega) (by omega)
          have hq2 : b * (-M - 1) = -(b * M) - b := by grind
          have hq3 : M ≤ b * M := by have := Int.mul_le_mul_of_nonneg_right hb (show 0 ≤ M by omega); omega
          omega
        · exact hx
      · omega
    · have := hm.1 ha
      have := hs.2.2
      have hq : b * t ≤ b * (-1) := Int.mul_le_mul_of_nonneg_left (by omega) (by omega)
      omega
  · have := hbt.1 ht
    rcases Int.lt_or_le a 0 with ha | ha
    · have := hm.2 ha
      have := hs.2.2
      rcases Int.lt_or_le 0 t with hx | hx
      · have hq : b * 1 ≤ b * t := Int.mul_le_mul_of_nonneg_left (by omega) (by omega)
        omega
      · omega
    · have := hm.1 ha
      omega
/-- a quotient rounded to the nearest integer, halves up -/
def hup (a b : Int) : Int := (2 * a + b) / (2 * b)
theorem hup_in (a b : Int) (hb : 1 ≤ b) : -b ≤ 2 * (a - hup a b * b) ∧ 2 * (a - hup a b * b) < b := by
  unfold hup
  have e := Int.emod_add_mul_ediv (2 * a + b) (2 * b)
  have h0 := Int.emod_nonneg (2 * a + b) (b := 2 * b) (by omega)
  have h1 := Int.emod_lt_of_pos (2 * a + b) (b := 2 * b) (by omega)
  generalize (2 * a + b) / (2 * b) = q at *
  have e2 : 2 * b * q = 2 * (q * b) := by grind
  omega
theorem hup_of (a b q : Int) (hb : 1 ≤ b) (h0 : -b ≤ 2 * (a - q * b)) (h1 : 2 * (a - q * b) < b) : hup a b = q := by
  unfold hup
  have e : 2 * a + b = (2 * (a - q * b) + b) + 2 * b * q := by grind
  rw [e, Int.add_mul_ediv_left _ _ (by omega), Int.ediv_eq_zero_of_lt (by omega) (by omega)]
  omega
theorem hup_scale (a b k : Int) (hb : 1 ≤ b) (hk : 1 ≤ k) : hup (a * k) (b * k) = hup a b := by
  unfold hup
  have e1 : 2 * (a * k) + b * k = (2 * a + b) * k := by grind
  have e2 : 2 * (b * k) = 2 * b * k := by grind
  rw [e1, e2, Int.mul_ediv_mul_of_pos_left _ _ (by omega)]
theorem hup_mono (a c b : Int) (hb : 1 ≤ b) (h : a ≤ c) : hup a b ≤ hup c b := by
  unfold hup
  exact Int.ediv_le_ediv (by omega) (by omega)
theorem hup_ge (a b s : Int) (hb : 1 ≤ b) : (s ≤ hup a b) ↔ (2 * s - 1) * b ≤ 2 * a := by
  unfold hup
  rw [Int.le_ediv_iff_mul_le (by omega)]
  have : s * (2 * b) = (2 * s - 1) * b + b := by grind
  omega
end Go.Proofs.YtpbnabibnkohdaaGreatDoor.Un
namespace Go.Proofs.YtpbnabibnkohdaaGreatDoor.Un
open Go.ChangeShapes Go.WideShapes Go.RowKit Wo
set_option linter.unusedVariables false
theorem floor_any (a b : Int) (h1 : 1 ≤ b) (h2 : b ≤ 4611686018427387904) (h3 : -4611686018427387904 ≤ a) (h4 : a ≤ 4611686018427387904) (w : World) :
    Calls Tryz.prog 118 #[.int .i64 a, .int .i64 b] w fun e w' => e = .returned (.int .i64 (a / b)) ∧ w = w' := by
  have m := fl_parts a b h1
  have t := td_bound a b 4611686018427387904 h1 h3 h4
  have t0 := t.1
  have t1 := t.2
  have hne : b ≠ 0 := by omega
  have e1 := m.2.2.1
  have e2 := m.2.2.2
  have tw : IntKind.i64.wrap (a.tdiv b) = a.tdiv b := IntWalk.i64_in _ (by omega)
  have tw2 : IntKind.i64.wrap (a.tdiv b - 1) = a.tdiv b - 1 := IntWalk.i64_in _ (by omega)
  rcases Int.lt_or_le (a.tmod b) 0 with h | h
  · have HE := Lib.hid (m.1 h)
    clear m t
    go_enter Tryz.func118, Tryz.ntmps118
    go_wp2
    go_ret
    exact ⟨ret_int HE.out, rfl⟩
  · have HE := Lib.hid (m.2.1 h)
    clear m t
    go_enter Tryz.func118, Tryz.ntmps118
    go_wp2
    go_ret
    exact ⟨ret_int HE.out, rfl⟩
theorem half_any (a b : Int) (h1 : 1 ≤ b) (h2 : b ≤ 1152921504606846976) (h3 : -1152921504606846976 ≤ a) (h4 : a ≤ 1152921504606846976) (w : World) :
    Calls Tryz.prog 91 #[.int .i64 a, .int .i64 b] w fun e w' => e = .returned (.int .i64 (hup a b)) ∧ w = w' := by
  have HE : Hid (∀ w, Calls Tryz.prog 118 #[.int .i64 (2 * a + b), .int .i64 (2 * b)] w fun e w' => e = .returned (.int .i64 (hup a b)) ∧ w = w') :=
    fun w => floor_any (2 * a + b) (2 * b) (by omega) (by omega) (by omega) (by omega) w
  go_enter Tryz.func91, Tryz.ntmps91
  go_wp2_with (go_at_call 118; refine (HE.out _).mono ?_; rintro e w' ⟨rfl, rfl⟩)
  go_ret
  exact ⟨rfl, rfl⟩
def smp (n : Int) : Bool := decide (-1000 ≤ n ∧ n ≤ 1000)
theorem sample_any (n : Int) (w : World) : Calls Tryz.prog 69 #[.int .i64 n] w fun e w' => e = .returned (.bool (smp n)) ∧ w = w' := by
  rcases Int.lt_or_le n (-1000) with h | h
  · have HE : Hid (smp n = false) := decide_eq_false (by omega)
    have b1 : decide (-1000 ≤ n) = false := decide_eq_false (by omega)
    go_enter Tryz.func69, Tryz.ntmps69
    go_wp2
    go_ret
    exact ⟨ret_bool HE.out.symm, rfl⟩
  · rcases Int.lt_or_le 1000 n with k | k
    · have HE : Hid (smp n = false) := decide_eq_false (by omega)
      have b1 : decide (-1000 ≤ n) = true := decide_eq_true (by omega)
      have b2 : decide (n ≤ 1000) = false := decide_eq_false (by omega)
      go_enter Tryz.func69, Tryz.ntmps69
      go_wp2
      go_ret
      exact ⟨ret_bool HE.out.symm, rfl⟩
    · have HE : Hid (smp n = true) := decide_eq_true (by omega)
      have b1 : decide (-1000 ≤ n) = true := decide_eq_true (by omega)
      have b2 : decide (n ≤ 1000) = true := decide_eq_true (by omega)
      go_enter Tryz.func69, Tryz.ntmps69
      go_wp2
      go_ret
      exact ⟨ret_bool HE.out.symm, rfl⟩
theorem dec_yes (x p : Int) (h1 : -1000000000 ≤ x) (h2 : x ≤ 1000000000) (h3 : 0 ≤ p) (h4 : p ≤ 6) (w : World) :
    Calls Tryz.prog 115 #[.agg #[.int .i64 x, .int .i64 p]] w fun e w' => e = .returned (.bool true) ∧ Bel w w' := by
  go_enter Tryz.func115, Tryz.ntmps115
  go_wp2
  go_ret
  exact ⟨rfl, Bel.rf.al _⟩
/-- a name of a unit -/
def Low (s : ByteArray) : Prop := 1 ≤ s.size ∧ s.size ≤ 12 ∧ ∀ (i : Nat) (h : i < s.size), 97 ≤ s[i].toNat ∧ s[i].toNat ≤ 122
set_option maxHeartbeats 2000000 in
set_option maxRecDepth 100000 in
theorem unit_yes (s : ByteArray) (m a d : Int) (hs : Low s) (m1 : 1 ≤ m) (m2 : m ≤ 1000000) (a1 : -1000000000 ≤ a) (a2 : a ≤ 1000000000) (d1 : 1 ≤ d) (d2 : d ≤ 1000000) (w : World) :
    Calls Tryz.prog 80 #[.agg #[.string s, .int .i64 m, .int .i64 a, .int .i64 d]] w fun e w' => e = .returned (.bool true) ∧ Bel w w' := by
  have s1 := hs.1
  have s2 := hs.2.1
  have HS := Lib.hid hs.2.2
  clear hs
  have si : (s.size : Int) ≤ 12 := by omega
  have si1 : (1 : Int) ≤ (s.size : Int) := by omega
  go_enter Tryz.func80, Tryz.ntmps80
  go_wp2
  have HB : Hid (Bk (w.alloc (.cells #[.string s, .int .i64 m, .int .i64 a, .int .i64 d] 65)) w.heap.size 65 #[.string s, .int .i64 m, .int .i64 a, .int .i64 d]) := Bk.nw _ _ _
  go_loopw [17] (fun t wr => ∃ k : Nat, k ≤ s.size ∧ t = .int .i64 (k : Int) ∧ Bel w wr ∧ Bk wr w.heap.size 65 #[.string s, .int .i64 m, .int .i64 a, .int .i64 d]) (fun t _ => s.size - (intOf t).toNat)
  case atStart => exact ⟨0, by omega, rfl, Bel.rf.al _, HB.out⟩
  case round =>
    obtain ⟨k, hk, rfl, hb, hbk⟩ := hrel
    rename_i wr
    have k0 : wr.cell? ⟨w.heap.size, 0, none⟩ = some (.string s) := hbk.cell 0
    have k1 : wr.cell? ⟨w.heap.size, 1, none⟩ = some (.int .i64 m) := hbk.cell 1
    have k2 : wr.cell? ⟨w.heap.size, 2, none⟩ = some (.int .i64 a) := hbk.cell 2
    have k3 : wr.cell? ⟨w.heap.size, 3, none⟩ = some (.int .i64 d) := hbk.cell 3
    have HBK := Lib.hid hbk
    have HBE := Lib.hid hb
    clear hbk hb HB
    rcases Nat.lt_or_ge k s.size with hlt | hge
    · have h1 := (HS.out k hlt).1
      have h2 := (HS.out k hlt).2
      have hi : (k : Int) < (s.size : Int) := by omega
      go_wp2
      go_roundw
      case rel => exact ⟨k + 1, by omega, by go_num, HBE.out, HBK.out⟩
      case measure => simp [intOf]; omega
    · obtain rfl : k = s.size := by omega
      go_wp2
      go_ret
      exact ⟨rfl, HBE.out⟩
/-- what Convert returns for a valid decimal and a valid unit -/
def cvt (E p : Int) : Value := if smp (hup E p) = true then .tuple #[.int .i64 (hup E p), .int .i64 0] else .tuple #[.int .i64 0, .int .i64 12]
theorem cvt_if {E p q : Int} (hp : 1 ≤ p) (h0 : -p ≤ 2 * (E - q * p)) (h1 : 2 * (E - q * p) < p) : cvt E p = if smp q = true then .tuple #[.int .i64 q, .int .i64 0] else .tuple #[.int .i64 0, .int .i64 12] := by
  unfold cvt
  rw [hup_of E p q hp h0 h1]
theorem cvt_of {E p q : Int} (hp : 1 ≤ p) (h0 : -p ≤ 2 * (E - q * p)) (h1 : 2 * (E - q * p) < p) (h2 : -1000 ≤ q) (h3 : q ≤ 1000) : cvt E p = .tuple #[.int .i64 q, .int .i64 0] := by
  rw [cvt_if hp h0 h1, if_pos (show smp q = true from decide_eq_true ⟨h2, h3⟩)]
theorem mul_in {x y X Y : Int} (h1 : -X ≤ x) (h2 : x ≤ X) (h3 : 0 ≤ y) (h4 : y ≤ Y) (hX : 0 ≤ X) : -(X * Y) ≤ x * y ∧ x * y ≤ X * Y := by
  have a := Int.mul_le_mul_of_nonneg_right h2 h3
  have b := Int.mul_le_mul_of_nonneg_right h1 h3
  have c := Int.mul_le_mul_of_nonneg_left h4 hX
  have d : -X * y = -(X * y) := by grind
  omega
set_option maxHeartbeats 2000000 in
theorem convert_any (x : Int) (p : Nat) (P : Int) (s : ByteArray) (m a d : Int) (x1 : -1000000000 ≤ x) (x2 : x ≤ 1000000000) (hp : p ≤ 6) (p1 : 1 ≤ P) (p2 : P ≤ 1000000) (hs : Low s) (m1 : 1 ≤ m) (m2 : m ≤ 1000000) (a1 : -1000000000 ≤ a) (a2 : a ≤ 1000000000) (d1 : 1 ≤ d) (d2 : d ≤ 1000000) (w : World)
    (hc : w.cell? ⟨0, p, none⟩ = some (.int .i64 P)) :
    Calls Tryz.prog 86 #[.agg #[.int .i64 x, .int .i64 (p : Int)], .agg #[.string s, .int .i64 m, .int .i64 a, .int .i64 d]] w fun e w' => e = .returned (cvt (x * m + a * P) (d * P)) ∧ Bel w w' := by
  have q1 := mul_in (Y := 1000000) x1 x2 (by omega) m2 (by omega)
  have q2 := mul_in (Y := 1000000) a1 a2 (by omega) p2 (by omega)
  have q3 := mul_in (x := d) (X := 1000000) (Y := 1000000) (by omega) d2 (by omega) p2 (by omega)
  have q4 : 1 ≤ d * P := by have := Int.mul_le_mul_of_nonneg_right d1 (show 0 ≤ P by omega); omega
  have w1 : IntKind.i64.wrap (x * m) = x * m := IntWalk.i64_in _ (by omega)
  have w2 : IntKind.i64.wrap (a * P) = a * P := IntWalk.i64_in _ (by omega)
  have w3 : IntKind.i64.wrap (d * P) = d * P := IntWalk.i64_in _ (by omega)
  have w4 : IntKind.i64.wrap (x * m + a * P) = x * m + a * P := IntWalk.i64_in _ (by omega)
  have pi : (p : Int) ≤ 6 := by omega
  have pi0 : (0 : Int) ≤ (p : Int) := by omega
  have HD : Hid (∀ w, Calls Tryz.prog 115 #[.agg #[.int .i64 x, .int .i64 (p : Int)]] w fun e w' => e = .returned (.bool true) ∧ Bel w w') := fun w => dec_yes x p x1 x2 pi0 pi w
  have HU : Hid (∀ w, Calls Tryz.prog 80 #[.agg #[.string s, .int .i64 m, .int .i64 a, .int .i64 d]] w fun e w' => e = .returned (.bool true) ∧ Bel w w') := fun w => unit_yes s m a d hs m1 m2 a1 a2 d1 d2 w
  have HH : Hid (∀ w, Calls Tryz.prog 91 #[.int .i64 (x * m + a * P), .int .i64 (d * P)] w fun e w' => e = .returned (.int .i64 (hup (x * m + a * P) (d * P))) ∧ w = w') := fun w => half_any _ _ q4 (by omega) (by omega) (by omega) w
  have HC := Lib.hid hc
  clear hc hs
  go_enter Tryz.func86, Tryz.ntmps86
  go_wp2_with fail
  go_at_call 115
  refine (HD.out _).mono ?_
  rintro e w5 ⟨rfl, h5⟩
  have B2 : Bk w5 (w.heap.size + 1) 65 #[.string s, .int .i64 m, .int .i64 a, .int .i64 d] := (Bk.nq (w.alloc _) _ _ (by simp)).bel h5
  have HX : Hid (Bel w w5) := ((Bel.rf.al _).al _).tr h5
  have HB1 : Hid (Bk w5 w.heap.size 128 #[.int .i64 x, .int .i64 (p : Int)]) := ((Bk.nw _ _ _).al _).bel h5
  have HB2 := Lib.hid B2
  have c0 : w5.cell? ⟨w.heap.size + 1, 0, none⟩ = some (.string s) := B2.cell 0
  have c1 : w5.cell? ⟨w.heap.size + 1, 1, none⟩ = some (.int .i64 m) := B2.cell 1
  have c2 : w5.cell? ⟨w.heap.size + 1, 2, none⟩ = some (.int .i64 a) := B2.cell 2
  have c3 : w5.cell? ⟨w.heap.size + 1, 3, none⟩ = some (.int .i64 d) := B2.cell 3
  clear h5 B2
  go_wp2_with fail
  go_at_call 80
  refine (HU.out _).mono ?_
  rintro e w6 ⟨rfl, h6⟩
  have B1 := HB1.out.bel h6
  have B2 := HB2.out.bel h6
  have k0 : w6.cell? ⟨w.heap.size, 0, none⟩ = some (.int .i64 x) := B1.cell 0
  have k1 : w6.cell? ⟨w.heap.size, 1, none⟩ = some (.int .i64 (p : Int)) := B1.cell 1
  have k2 : w6.cell? ⟨w.heap.size + 1, 1, none⟩ = some (.int .i64 m) := B2.cell 1
  have k3 : w6.cell? ⟨w.heap.size + 1, 2, none⟩ = some (.int .i64 a) := B2.cell 2
  have k4 : w6.cell? ⟨w.heap.size + 1, 3, none⟩ = some (.int .i64 d) := B2.cell 3
  have hx6 := HX.out.tr h6
  have k5 : w6.cell? ⟨0, p, none⟩ = some (.int .i64 P) := hx6.kp HC.out
  have HX6 := Lib.hid hx6
  clear h6 B1 B2 hx6 c0 c1 c2 c3
  go_wp2_with fail
  go_at_call 91
  refine (HH.out _).mono ?_
  rintro e w7 ⟨rfl, rfl⟩
  clear w1 w2 w3 w4
  generalize hG : hup (x * m + a * P) (d * P) = q
  have HG := Lib.hid hG
  clear hG
  have HV : Hid (cvt (x * m + a * P) (d * P) = if smp q = true then .tuple #[.int .i64 q, .int .i64 0] else .tuple #[.int .i64 0, .int .i64 12]) := by
    show cvt (x * m + a * P) (d * P) = _
    unfold cvt
    rw [HG.out]
  rcases hS : smp q
  · rw [hS] at HV
    have HS := Lib.hid hS
    have HSC : Hid (∀ w, Calls Tryz.prog 69 #[.int .i64 q] w fun e w' => e = .returned (.bool false) ∧ w = w') := fun w => by have := sample_any q w; rwa [HS.out] at this
    clear hS
    go_wp2_with (go_at_call 69; refine (HSC.out _).mono ?_; rintro e w' ⟨rfl, rfl⟩)
    go_ret2
    exact ⟨by rw [HV.out]; rfl, HX6.out⟩
  · rw [hS] at HV
    have HS := Lib.hid hS
    have HSC : Hid (∀ w, Calls Tryz.prog 69 #[.int .i64 q] w fun e w' => e = .returned (.bool true) ∧ w = w') := fun w => by have := sample_any q w; rwa [HS.out] at this
    clear hS
    go_wp2_with (go_at_call 69; refine (HSC.out _).mono ?_; rintro e w' ⟨rfl, rfl⟩)
    go_ret2
    exact ⟨by rw [HV.out]; rfl, HX6.out⟩
end Go.Proofs.YtpbnabibnkohdaaGreatDoor.Un
namespace Go.Proofs.YtpbnabibnkohdaaGreatDoor.Rt
open Go.Lib Un Rg
open Rm (Rp tm vl)
set_option linter.unusedVariables false
theorem ib_none : ∀ (a : List UInt8) (c : UInt8), c ∉ a → indexByte a c = -1
  | [], c, _ => rfl
  | b :: l, c, h => by
    unfold indexByte
    rw [if_neg (fun e => h (by rw [beq_iff_eq.1 e]; exact List.mem_cons_self)), ib_none l c (fun e => h (List.mem_cons_of_mem _ e))]
    rfl
theorem ib_some : ∀ (a b : List UInt8) (c : UInt8), c ∉ a → indexByte (a ++ c :: b) c = (a.length : Int)
  | [], b, c, _ => by
    show indexByte (c :: b) c = _
    unfold indexByte
    rw [if_pos (beq_iff_eq.2 rfl)]; rfl
  | x :: l, b, c, h => by
    show indexByte (x :: (l ++ c :: b)) c = _
    have ih := ib_some l b c (fun e => h (List.mem_cons_of_mem _ e))
    unfold indexByte
    rw [if_neg (fun e => h (by rw [beq_iff_eq.1 e]; exact List.mem_cons_self)), ih, if_neg (fun e => by have := beq_iff_eq.1 e; omega)]
    rw [List.length_cons]; omega
/-- a text, cut behind its first line -/
def cutN (l : List UInt8) : List UInt8 × List UInt8 := if 0 ≤ indexByte l 10 then (l.take (indexByte l 10).toNat, l.drop ((indexByte l 10).toNat + 1)) else (l, [])
theorem cutN_none (a : List UInt8) (h : (10 : UInt8) ∉ a) : cutN a = (a, []) := by
  unfold cutN
  rw [ib_none a 10 h]; rfl
theorem cutN_some (a b : List UInt8) (h : (10 : UInt8) ∉ a) : cutN (a ++ 10 :: b) = (a, b) := by
  unfold cutN
  rw [ib_some a b 10 h, if_pos (by omega)]
  have e : ((a.length : Int)).toNat = a.length := by omega
  rw [e, List.take_left' rfl]
  congr 1
  rw [← List.drop_drop, List.drop_left' rfl]; rfl
theorem cutN_lt (l : List UInt8) (h : l ≠ []) : (cutN l).2.length < l.length := by
  have hp : 0 < l.length := List.length_pos_iff.2 h
  unfold cutN
  split
  · simp only [List.length_drop]; omega
  · simpa using hp
theorem cutN_le (l : List UInt8) : (cutN l).1.length ≤ l.length := by
  unfold cutN
  split
  · simp only [List.length_take]; omega
  · exact Nat.le_refl _
/-- the lines of a text -/
def lns (l : List UInt8) : List (List UInt8) := if h : l = [] then [] else (cutN l).1 :: lns (cutN l).2
termination_by l.length
decreasing_by exact cutN_lt l h
theorem lns_nil : lns [] = [] := by rw [lns]; rfl
theorem lns_ne (l : List UInt8) (h : l ≠ []) : lns l = (cutN l).1 :: lns (cutN l).2 := by rw [lns, dif_neg h]
theorem lns_line (a b : List UInt8) (h : (10 : UInt8) ∉ a) : lns (a ++ 10 :: b) = a :: lns b := by
  rw [lns_ne _ (by simp), cutN_some a b h]
theorem lns_last (a : List UInt8) (h : (10 : UInt8) ∉ a) (hn : a ≠ []) : lns a = [a] := by
  rw [lns_ne _ hn, cutN_none a h, lns_nil]
theorem lns_len (l : List UInt8) : (lns l).length ≤ l.length := by
  generalize hn : l.length = n
  induction n using Nat.strongRecOn generalizing l with
  | ind n ih =>
    by_cases h : l = []
    · subst h; rw [lns_nil]; simp
    · rw [lns_ne l h, List.length_cons]
      have h1 := cutN_lt l h
      have := ih _ (by omega) (cutN l).2 rfl
      omega
/-- words -/
theorem sp_none (a : List UInt8) (h : (32 : UInt8) ∉ a) : split a [32] = [a] := by
  unfold split
  rw [count_miss (by rw [index_one, ib_none a 32 h])]; rfl
theorem sp_some (a b : List UInt8) (h : (32 : UInt8) ∉ a) : split (a ++ 32 :: b) [32] = a :: split b [32] := by
  have hi : index (a ++ 32 :: b) [32] = (a.length : Int) := by rw [index_one, ib_some a b 32 h]
  have hd : (a ++ 32 :: b).drop (a.length + 1) = b := by rw [← List.drop_drop, List.drop_left' rfl]; rfl
  unfold split
  rw [count_hit (by simp) hi]
  show splitK [32] 0 (1 + count ((a ++ 32 :: b).drop (a.length + 1)) [32]) _ = _
  rw [hd, Nat.add_comm, splitK, hi, if_neg (fun e => by have := beq_iff_eq.1 e; omega)]
  have e : ((a.length : Int)).toNat = a.length := by omega
  rw [e]
  show (a ++ 32 :: b).take (a.length + 0) :: splitK [32] 0 (count b [32]) ((a ++ 32 :: b).drop (a.length + 1)) = _
  rw [hd, Nat.add_zero, List.take_left' rfl]
theorem sp_three (a b c : List UInt8) (h1 : (32 : UInt8) ∉ a) (h2 : (32 : UInt8) ∉ b) (h3 : (32 : UInt8) ∉ c) : split (a ++ 32 :: (b ++ 32 :: c)) [32] = [a, b, c] := by
  rw [sp_some a _ h1, sp_some b c h2, sp_none c h3]
/-- a unit -/
structure Ut where
  nm : List UInt8
  mul : Int
  add : Int
  div : Int
def look (US : List Ut) (n : List UInt8) : Option Ut := US.find? fun u => u.nm == n
/-- whether a word has the form of a time -/
def isT (a : List UInt8) : Bool := decide (1 ≤ a.length) && (decide (a.length ≤ 13) && (!(a.head? == some 48 && a != [48]) && a.all fun c => decide (48 ≤ c.toNat) && decide (c.toNat ≤ 57)))
def p10 (n : Int) : Int := 10 ^ n.toNat
/-- what chapter 4 makes of a decimal -/
def cv (d pl : Int) (u : Ut) : Int := hup (d * u.mul + u.add * p10 pl) (u.div * p10 pl)
/-- what three words are read as -/
def line3 (US : List Ut) (a b n : List UInt8) : Rp × Int :=
  if n = [] ∨ isT a = false then ((0, 0), 3)
  else if rej (rn (trimPrefix b [45])) (hasPrefix b [45]) = true then ((0, 0), 3)
  else if 1099511627776 < (val a : Int) then ((0, 0), 1)
  else if 1000000000 < (rn (trimPrefix b [45])).digits then ((0, 0), 1)
  else match look US n with
    | none => ((0, 0), 7)
    | some u => if smp (cv (if hasPrefix b [45] = true then -(rn (trimPrefix b [45])).digits else (rn (trimPrefix b [45])).digits) (rn (trimPrefix b [45])).places u) = true then ((val a, cv (if hasPrefix b [45] = true then -(rn (trimPrefix b [45])).digits else (rn (trimPrefix b [45])).digits) (rn (trimPrefix b [45])).places u), 0) else ((val a, 0), 12)
/-- what a line is read as -/
def lineS (US : List Ut) (c : List UInt8) : Rp × Int :=
  match split c [32] with
  | [a, b, n] => line3 US a b n
  | _ => ((0, 0), 3)
/-- what the lines of a text are read as -/
def run (US : List Ut) : List (List UInt8) → Nat → List Rp → List Rp × Nat × Int
  | [], n, acc => (acc, 0, 0)
  | c :: cs, n, acc =>
    if c = [] ∨ c.head? = some 35 then run US cs (n + 1) acc
    else if (lineS US c).2 = 0 then (if acc.length = 2000 then ([], n, 4) else run US cs (n + 1) (acc ++ [(lineS US c).1]))
    else ([], n, (lineS US c).2)
theorem run_skip (US : List Ut) (c : List UInt8) (cs : List (List UInt8)) (n : Nat) (acc : List Rp) (h : c = [] ∨ c.head? = some 35) : run US (c :: cs) n acc = run US cs (n + 1) acc := by
  rw [run, if_pos h]
theorem run_bad (US : List Ut) (c : List UInt8) (cs : List (List UInt8)) (n : Nat) (acc : List Rp) (h : ¬ (c = [] ∨ c.head? = some 35)) (h0 : (lineS US c).2 ≠ 0) : run US (c :: cs) n acc = ([], n, (lineS US c).2) := by
  rw [run, if_neg h, if_neg h0]
theorem run_full (US : List Ut) (c : List UInt8) (cs : List (List UInt8)) (n : Nat) (acc : List Rp) (h : ¬ (c = [] ∨ c.head? = some 35)) (h0 : (lineS US c).2 = 0) (hl : acc.length = 2000) : run US (c :: cs) n acc = ([], n, 4) := by
  rw [run, if_neg h, if_pos h0, if_pos hl]
theorem run_good (US : List Ut) (c : List UInt8) (cs : List (List UInt8)) (n : Nat) (acc : List Rp) (h : ¬ (c = [] ∨ c.head? = some 35)) (h0 : (lineS US c).2 = 0) (hl : acc.length ≠ 2000) : run US (c :: cs) n acc = run US cs (n + 1) (acc ++ [(lineS US c).1]) := by
  rw [run, if_neg h, if_pos h0, if_neg hl]
end Go.Proofs.YtpbnabibnkohdaaGreatDoor.Rt
namespace Go.Proofs.YtpbnabibnkohdaaGreatDoor.Rt
open Go.Lib Un Rg
open Rm (Rp tm vl)
set_option linter.unusedVariables false
theorem nd_13 {n : Nat} (h : n ≤ 1099511627776) : nDigits n ≤ 13 := by
  rcases Nat.lt_or_ge 13 (nDigits n) with h1 | h1
  · exfalso
    have key : ∀ k u, k < nDigits u → 10 ^ k ≤ u ∨ k = 0 := by
      intro k
      induction k with
      | zero => intro u _; exact .inr rfl
      | succ k ih =>
        intro u hu
        by_cases h10 : u < 10
        · rw [nDigits_small h10] at hu; omega
        · rw [nDigits_big h10] at hu
          rcases ih (u / 10) (by omega) with h2 | h2
          · left; rw [Nat.pow_succ]; omega
          · left; subst h2; simp; omega
    rcases key 13 n h1 with h2 | h2
    · have : (10 : Nat) ^ 13 = 10000000000000 := by decide
      omega
    · omega
  · exact h1
theorem fb_zero (n : Nat) : fb n 0 = decDigits n := by
  unfold fb pad
  have := nDigits_pos n
  rw [if_pos rfl, show 0 + 1 - nDigits n = 0 by omega]; rfl
theorem itoa_fm (x : Int) : itoa x = fm x 0 := by
  unfold itoa fm
  rw [fb_zero]
  split
  · first | rfl | rw [show (-x).toNat = x.natAbs by omega]
  · first | rfl | rw [show x.toNat = x.natAbs by omega]
theorem fm_char (x : Int) : ∀ c ∈ fm x 0, c = 45 ∨ isD c := by
  intro c hc
  have hd := (dec_facts x.natAbs).1
  unfold fm at hc
  rw [fb_zero] at hc
  split at hc
  · rcases List.mem_cons.1 hc with h | h
    · exact .inl h
    · exact .inr (hd c h)
  · exact .inr (hd c hc)
theorem fm_no (x : Int) (k : UInt8) (h1 : k ≠ 45) (h2 : ¬ isD k) : k ∉ fm x 0 := fun h => (fm_char x k h).elim h1 h2
theorem no32 : ¬ isD (32 : UInt8) := by unfold isD; decide
theorem no10 : ¬ isD (10 : UInt8) := by unfold isD; decide
theorem fm_pos (t : Int) (h : 0 ≤ t) : fm t 0 = decDigits t.natAbs := by
  unfold fm
  rw [if_neg (by omega), fb_zero]
theorem isT_dec (n : Nat) (h : n ≤ 1099511627776) : isT (decDigits n) = true := by
  obtain ⟨a, b, c, d⟩ := dec_facts n
  have hl := decDigits_length n
  have h1 := nDigits_pos n
  have h2 := nd_13 h
  have hh : ((decDigits n).head? == some 48 && decDigits n != [48]) = false := by
    rcases Nat.eq_zero_or_pos n with h0 | h0
    · subst h0; rw [dec_small (by omega)]; decide
    · rcases hq : (decDigits n).head? with _ | q
      · rfl
      · have := d h0 q hq
        rw [show ((some q == some (48 : UInt8)) = false) from by simpa using this]
        rfl
  have ha : (decDigits n).all (fun c => decide (48 ≤ c.toNat) && decide (c.toNat ≤ 57)) = true := by
    rw [List.all_eq_true]
    intro x hx
    have := a x hx
    rw [decide_eq_true this.1, decide_eq_true this.2]; rfl
  unfold isT
  rw [decide_eq_true (by omega), decide_eq_true (by omega), hh, ha]; rfl
/-- the line of a reading -/
def lt (p : Rp) : List UInt8 := fm p.1 0 ++ 32 :: (fm p.2 0 ++ 32 :: [114, 97, 119])
/-- the text of readings -/
def ft (l : List Rp) : List UInt8 := l.flatMap fun p => lt p ++ [10]
theorem ft_cons (p : Rp) (l : List Rp) : ft (p :: l) = lt p ++ 10 :: ft l := by simp [ft]
theorem ft_app (a b : List Rp) : ft (a ++ b) = ft a ++ ft b := by simp [ft]
theorem lt_no (p : Rp) : (10 : UInt8) ∉ lt p := by
  intro h
  unfold lt at h
  rcases List.mem_append.1 h with h | h
  · exact fm_no p.1 10 (by decide) no10 h
  · rcases List.mem_cons.1 h with h | h
    · exact absurd h (by decide)
    · rcases List.mem_append.1 h with h | h
      · exact fm_no p.2 10 (by decide) no10 h
      · exact absurd h (by decide)
theorem lns_ft (l : List Rp) (b : List UInt8) : lns (ft l ++ b) = l.map lt ++ lns b := by
  induction l with
  | nil => rfl
  | cons p l ih =>
    rw [ft_cons, List.append_assoc, List.cons_append, lns_line _ _ (lt_no p), ih]; rfl
theorem prs_inv {S : Sc} {m : Bool} {X P : Int} (h : prs S m = .tuple #[.agg #[.int .i64 X, .int .i64 P], .int .i64 0]) :
    rej S m = false ∧ ¬ 1000000000 < S.digits ∧ (if m = true then -S.digits else S.digits) = X ∧ S.places = P := by
  unfold prs at h
  split at h
  · simp at h
  · rename_i h1
    split at h
    · simp at h
    · rename_i h2
      simp only [Value.tuple.injEq, Array.mk.injEq, List.cons.injEq, Value.agg.injEq, Value.int.injEq] at h
      exact ⟨by simpa using h1, h2, by simpa using h.1.1.2, by simpa using h.1.2.1.2⟩
def raw : Ut := ⟨[114, 97, 119], 1, 0, 1⟩
theorem line_lt (US : List Ut) (p : Rp) (hv : Vr p.1 p.2) (hU : look US [114, 97, 119] = some raw) : lineS US (lt p) = (p, 0) := by
  obtain ⟨t, v⟩ := p
  obtain ⟨t0, t1, v0, v1⟩ := hv
  simp only at t0 t1 v0 v1
  have hp : (lt (t, v)) = fm t 0 ++ 32 :: (fm v 0 ++ 32 :: [114, 97, 119]) := rfl
  have hT : isT (fm t 0) = true := by rw [fm_pos t t0]; exact isT_dec _ (by omega)
  have hval : (val (fm t 0) : Int) = t := by rw [fm_pos t t0, (dec_facts t.natAbs).2.1]; omega
  obtain ⟨b1, b2, b3, b4⟩ := prs_inv (fm_back v 0 (by omega) (by omega) (by omega))
  have hpre := fm_pre v 0
  have hcv : cv v 0 raw = v := by
    show hup (v * 1 + 0 * (10 ^ (0 : Int).toNat)) (1 * (10 ^ (0 : Int).toNat)) = v
    have e : (10 ^ (0 : Int).toNat : Int) = 1 := by rfl
    rw [e]; unfold hup; omega
  have hs : smp v = true := decide_eq_true ⟨v0, v1⟩
  unfold lineS
  rw [hp, sp_three _ _ _ (fm_no t 32 (by decide) no32) (fm_no v 32 (by decide) no32) (by decide)]
  simp only
  unfold line3
  rw [if_neg (by rw [hT]; simp), hpre.1, hpre.2, if_neg (by rw [b1]; simp), if_neg (by omega), if_neg b2, hU]
  simp only
  rw [b3, b4, show ((0 : Nat) : Int) = 0 from rfl, hcv, if_pos hs, hval]
theorem run_ft (US : List Ut) (hU : look US [114, 97, 119] = some raw) (l : List Rp) : ∀ (cs : List (List UInt8)) (n : Nat) (acc : List Rp), Vrs l → acc.length + l.length ≤ 2000 →
    run US (l.map lt ++ cs) n acc = run US cs (n + l.length) (acc ++ l) := by
  induction l with
  | nil => intro cs n acc _ _; simp
  | cons p l ih =>
    intro cs n acc hv hl
    have h0 : Vr p.1 p.2 := hv 0 (by simp)
    have hv' : Vrs l := fun i hi => by
      have := hv (i + 1) (by simpa using hi)
      simpa [tm, vl] using this
    have hL := line_lt US p h0 hU
    have hne : ¬ (lt p = [] ∨ (lt p).head? = some 35) := by
      have hc : ∃ c r, lt p = c :: r ∧ c ∈ fm p.1 0 := by
        rcases hq : fm p.1 0 with _ | ⟨c, r⟩
        · have h1 := decDigits_length p.1.natAbs
          have h2 := nDigits_pos p.1.natAbs
          rw [fm_pos p.1 h0.1] at hq
          rw [hq] at h1; simp at h1; omega
        · exact ⟨c, r ++ 32 :: (fm p.2 0 ++ 32 :: [114, 97, 119]), by unfold lt; rw [hq]; rfl, by simp⟩
      obtain ⟨c, r, e, hc⟩ := hc
      rw [e]
      intro h
      rcases h with h | h
      · simp at h
      · simp at h
        rcases fm_char p.1 c hc with h' | h'
        · rw [h] at h'; exact absurd h' (by decide)
        · rw [h] at h'; exact absurd h' (by unfold isD; decide)
    rw [List.map_cons, List.cons_append, run_good US _ _ n acc hne (by rw [hL]) (by simp at hl; omega), hL]
    rw [ih cs (n + 1) (acc ++ [p]) hv' (by simp at hl ⊢; omega)]
    simp only [List.length_cons, List.append_assoc, List.singleton_append]
    rw [show n + 1 + l.length = n + (l.length + 1) by omega]
end Go.Proofs.YtpbnabibnkohdaaGreatDoor.Rt
namespace Go.Proofs.YtpbnabibnkohdaaGreatDoor.Rg
open Go.ChangeShapes Go.WideShapes Go.RowKit Wo Sr Wi Rm
set_option linter.unusedVariables false
def cm (x y : Int) : Int := if x < y then -1 else if y < x then 1 else 0
theorem nan_ok (x : Int) (w : World) : Calls Tryz.prog 117 #[.int .i64 x] w fun e w' => e = .returned (.bool false) ∧ w = w' := by
  have n := ne_self x
  go_enter Tryz.func117, Tryz.ntmps117
  go_wp2
  go_ret
  exact ⟨rfl, rfl⟩
theorem compare_ok (x y : Int) (w : World) : Calls Tryz.prog 90 #[.int .i64 x, .int .i64 y] w fun e w' => e = .returned (.int .i64 (cm x y)) ∧ w = w' := by
  rcases Int.lt_trichotomy x y with h | h | h
  · have e : cm x y = -1 := if_pos h
    rw [e]
    clear e
    go_enter Tryz.func90, Tryz.ntmps90
    go_wp2_with (go_at_call 117; refine (nan_ok _ _).mono ?_; rintro e w' ⟨rfl, rfl⟩)
    go_wp2_with (go_at_call 117; refine (nan_ok _ _).mono ?_; rintro e w' ⟨rfl, rfl⟩)
    go_ret
    exact ⟨rfl, rfl⟩
  · have e : cm x y = 0 := by unfold cm; rw [if_neg (by omega), if_neg (by omega)]
    rw [e]
    clear e
    subst h
    go_enter Tryz.func90, Tryz.ntmps90
    go_wp2_with (go_at_call 117; refine (nan_ok _ _).mono ?_; rintro e w' ⟨rfl, rfl⟩)
    go_wp2_with (go_at_call 117; refine (nan_ok _ _).mono ?_; rintro e w' ⟨rfl, rfl⟩)
    go_ret
    exact ⟨rfl, rfl⟩
  · have e : cm x y = 1 := by unfold cm; rw [if_neg (by omega), if_pos h]
    rw [e]
    clear e
    go_enter Tryz.func90, Tryz.ntmps90
    go_wp2_with (go_at_call 117; refine (nan_ok _ _).mono ?_; rintro e w' ⟨rfl, rfl⟩)
    go_wp2_with (go_at_call 117; refine (nan_ok _ _).mono ?_; rintro e w' ⟨rfl, rfl⟩)
    go_ret
    exact ⟨rfl, rfl⟩
theorem closure_ok (x v y : Int) (w : World) : Calls Tryz.prog 89 #[.agg #[.int .i64 x, .int .i64 v], .int .i64 y] w fun e w' => e = .returned (.int .i64 (cm x y)) ∧ Bel w w' := by
  go_enter Tryz.func89, Tryz.ntmps89
  go_wp2_with (go_at_call 90; refine (compare_ok _ _ _).mono ?_; rintro e w' ⟨rfl, rfl⟩)
  go_ret
  exact ⟨rfl, by first | exact Bel.rf.al _ | exact (Bel.rf.al _).drwN _⟩
set_option maxHeartbeats 4000000 in
theorem search_ok (A : Option Addr) (c n : Nat) (l : List Rp) (hn : n ≤ 2000) (hs : Asc l) (t : Int) (w : World) (h : Zr w A n l) :
    Calls Tryz.prog 88 #[.slice A n c, .int .i64 t, .func (.func 89) #[] #[]] w fun e w' => e = .returned (.tuple #[.int .i64 (lb l t : Int), .bool (decide (lb l t < n ∧ tm l (lb l t) = t))]) ∧ Bel w w' := by
  have H1 := Lib.hid h
  have HS := Lib.hid hs
  have ni : (n : Int) ≤ 2000 := by omega
  clear h hs
  go_enter Tryz.func88, Tryz.ntmps88
  go_wp2
  go_loopw [9, 10] (fun s9 s10 wr => ∃ (i j : Nat) (V : World), V = wr ∧ i ≤ j ∧ j ≤ n ∧ s9 = .int .i64 (i : Int) ∧ s10 = .int .i64 (j : Int) ∧ Bel w wr ∧ (∀ q, q < i → tm l q < t) ∧ (∀ q, j ≤ q → q < n → t ≤ tm l q)) (fun s9 s10 _ => (intOf s10).toNat - (intOf s9).toNat)
  case atStart => exact ⟨0, n, _, rfl, by omega, by omega, rfl, rfl, Bel.rf, fun q hq => by omega, fun q h1 h2 => by omega⟩
  case round =>
    obtain ⟨i, j, wr, hwr, hij, hjn, rfl, rfl, hb, hlo, hhi⟩ := hrel
    subst hwr
    have HB := Lib.hid hb
    have HLH := Lib.hid (And.intro hlo hhi)
    clear hlo hhi
    rcases Nat.lt_or_ge i j with hlt | hge
    · obtain ⟨hh, hhe⟩ : ∃ h : Nat, (i + j) / 2 = h := ⟨_, rfl⟩
      have h1 : i ≤ hh := by omega
      have h2 : hh < j := by omega
      obtain ⟨g, rfl, hab, hac⟩ := (H1.out.bel hb).2 (by omega)
      obtain ⟨c1, c2⟩ := hac hh (by omega)
      obtain ⟨x, hxe⟩ : ∃ x, tm l hh = x := ⟨_, rfl⟩
      obtain ⟨y, hye⟩ : ∃ x, vl l hh = x := ⟨_, rfl⟩
      rw [hxe] at c1
      rw [hye] at c2
      have hdv : ((i : Int) + (j : Int)) / 2 = (hh : Int) := by omega
      have ki : (i : Int) < (j : Int) := by omega
      have ji : (j : Int) ≤ 2000 := by omega
      have hi1 : (hh : Int) < (n : Int) := by omega
      have hi2 : (hh : Int) ≤ 2000 := by omega
      have HX := Lib.hid (And.intro hxe hye)
      have HD := Lib.hid (And.intro h1 (And.intro h2 hhe))
      clear hb hac hab hxe hye hhe
      rcases Int.lt_or_le x t with hxt | hxt
      · have hcm : cm x t = -1 := if_pos hxt
        go_wp2_with (go_at_call 89; refine (closure_ok x y t _).mono ?_; rintro e w' ⟨rfl, hbr⟩; rw [hcm])
        go_roundw
        case rel => exact ⟨hh + 1, j, _, rfl, by omega, by omega, by go_num, rfl, by first | exact HB.out.tr hbr | exact (HB.out.drwN _).tr hbr | exact HB.out.drw.tr hbr, fun q hq => by
          rcases Nat.lt_or_ge q hh with h3 | h3
          · have := HS.out.lt h3 (by have := H1.out.1; omega)
            have := HX.out.1
            omega
          · rw [show q = hh by omega, HX.out.1]; exact hxt, HLH.out.2⟩
        case measure => simp [intOf]; omega
      · have hcm : 0 ≤ cm x t := by unfold cm; rw [if_neg (by omega)]; split <;> omega
        obtain ⟨cv, hcv⟩ : ∃ c, cm x t = c := ⟨_, rfl⟩
        rw [hcv] at hcm
        go_wp2_with (go_at_call 89; refine (closure_ok x y t _).mono ?_; rintro e w' ⟨rfl, hbr⟩; rw [hcv])
        go_roundw
        case rel => exact ⟨i, hh, _, rfl, by omega, by omega, rfl, rfl, by first | exact HB.out.tr hbr | exact (HB.out.drwN _).tr hbr | exact HB.out.drw.tr hbr, HLH.out.1, fun q hq hqn => by
          rcases Nat.lt_or_ge hh q with h3 | h3
          · have := HS.out.lt h3 (by have := H1.out.1; omega)
            have := HX.out.1
            omega
          · rw [show q = hh by omega, HX.out.1]; exact hxt⟩
        case measure => simp [intOf]; omega
    · obtain rfl : i = j := by omega
      have hlb : lb l t = i := lb_eq l t i HLH.out.1 (by have := H1.out.1; omega) (fun hi => HLH.out.2 i (by omega) (by have := H1.out.1; omega))
      have HLB := Lib.hid hlb
      clear hlb
      rcases Nat.lt_or_ge i n with hin | hin
      · obtain ⟨g, rfl, hab, hac⟩ := (H1.out.bel hb).2 (by omega)
        obtain ⟨c1, c2⟩ := hac i (by omega)
        obtain ⟨x, hxe⟩ : ∃ x, tm l i = x := ⟨_, rfl⟩
        obtain ⟨y, hye⟩ : ∃ x, vl l i = x := ⟨_, rfl⟩
        rw [hxe] at c1
        rw [hye] at c2
        have hi1 : (i : Int) < (n : Int) := by omega
        have hi2 : (i : Int) ≤ 2000 := by omega
        have HX := Lib.hid (And.intro hxe hye)
        clear hb hac hab hxe hye
        rcases Classical.em (x = t) with hxt | hxt
        · subst hxt
          have hcm : cm x x = 0 := by unfold cm; rw [if_neg (by omega), if_neg (by omega)]
          have EQ : Hid (Ending.returned (.tuple #[.int .i64 (lb l x : Int), .bool (decide (lb l x < n ∧ tm l (lb l x) = x))]) = .returned (.tuple #[.int .i64 (i : Int), .bool true])) := by
            show _ = _
            rw [HLB.out, HX.out.1, decide_eq_true (show i < n ∧ x = x from ⟨hin, rfl⟩)]
          go_wp2_with (go_at_call 89; refine (closure_ok x y x _).mono ?_; rintro e w' ⟨rfl, hbr⟩; rw [hcm])
          go_ret2
          exact ⟨EQ.out.symm, by first | exact HB.out.tr hbr | exact (HB.out.drwN _).tr hbr | exact HB.out.drw.tr hbr⟩
        · have hcm : cm x t ≠ 0 := by unfold cm; split <;> (try split) <;> omega
          obtain ⟨cv, hcv⟩ : ∃ c, cm x t = c := ⟨_, rfl⟩
          rw [hcv] at hcm
          have EQ : Hid (Ending.returned (.tuple #[.int .i64 (lb l t : Int), .bool (decide (lb l t < n ∧ tm l (lb l t) = t))]) = .returned (.tuple #[.int .i64 (i : Int), .bool false])) := by
            show _ = _
            rw [HLB.out, HX.out.1, decide_eq_false (show ¬ (i < n ∧ x = t) from fun h => hxt h.2)]
          have hcq : (cv == 0) = false := by simpa using hcm
          go_wp2_with (go_at_call 89; refine (closure_ok x y t _).mono ?_; rintro e w' ⟨rfl, hbr⟩; rw [hcv])
          go_ret2
          exact ⟨EQ.out.symm, by first | exact HB.out.tr hbr | exact (HB.out.drwN _).tr hbr | exact HB.out.drw.tr hbr⟩
      · obtain rfl : i = n := by omega
        have EQ : Hid (Ending.returned (.tuple #[.int .i64 (lb l t : Int), .bool (decide (lb l t < i ∧ tm l (lb l t) = t))]) = .returned (.tuple #[.int .i64 (i : Int), .bool false])) := by
          show _ = _
          rw [HLB.out, decide_eq_false (show ¬ (i < i ∧ tm l i = t) from fun h => by omega)]
        clear hb
        go_wp2
        go_ret2
        exact ⟨EQ.out.symm, by first | exact HB.out | exact HB.out.drwN _⟩
end Go.Proofs.YtpbnabibnkohdaaGreatDoor.Rg
namespace Go.Proofs.YtpbnabibnkohdaaGreatDoor.Rg
open Go.ChangeShapes Go.WideShapes Go.RowKit Wo Sr Wi Rm
set_option linter.unusedVariables false
/-- a valid grid -/
def Gv (f s c r q : Int) : Prop := 0 ≤ f ∧ f ≤ 1099511627776 ∧ 1 ≤ s ∧ s ≤ 1099511627776 ∧ 0 ≤ c ∧ c ≤ 2000 ∧ (0 < c → f + (c - 1) * s ≤ 1099511627776) ∧ 1 ≤ r ∧ r ≤ 3 ∧ 0 ≤ q ∧ q ≤ 1099511627776
def gv (f s c r q : Int) : Value := .agg #[.int .i64 f, .int .i64 s, .int .i64 c, .int .i64 r, .int .i64 q]
theorem mul_in {a b x y : Int} (a0 : -x ≤ a) (a1 : a ≤ x) (b0 : 0 ≤ b) (b1 : b ≤ y) (x0 : 0 ≤ x) : -(x * y) ≤ a * b ∧ a * b ≤ x * y := by
  have h1 := Int.mul_le_mul_of_nonneg_right a1 b0
  have h2 := Int.mul_le_mul_of_nonneg_right a0 b0
  have h3 := Int.mul_le_mul_of_nonneg_left b1 x0
  have h4 : -x * b = -(x * b) := by grind
  omega
set_option maxHeartbeats 4000000 in
theorem valid_ok (f s c r q : Int) (h : Gv f s c r q) (w : World) : Calls Tryz.prog 60 #[gv f s c r q] w fun e w' => e = .returned (.bool true) ∧ Bel w w' := by
  obtain ⟨f0, f1, s0, s1, c0, c1, h1, r0, r1, q0, q1⟩ := h
  unfold gv
  rcases Int.lt_or_le 0 c with hc | hc
  · have hp := mul_in (a := c - 1) (b := s) (x := 2000) (y := 1099511627776) (by omega) (by omega) (by omega) s1 (by decide)
    have hl := h1 hc
    obtain ⟨p, hpp⟩ : ∃ p, (c - 1) * s = p := ⟨_, rfl⟩
    rw [hpp] at hp hl
    have wp : wrap64 p = p := IntWalk.wrap64_in _ (by omega)
    have wp2 : IntKind.i64.wrap p = p := IntWalk.i64_in _ (by omega)
    clear h1
    rcases (show r = 1 ∨ r = 2 ∨ r = 3 by omega) with rfl | rfl | rfl
    all_goals
      go_enter Tryz.func60, Tryz.ntmps60
      go_wp2
      go_ret
      exact ⟨rfl, by first | exact Bel.rf.al _ | exact (Bel.rf.al _).drwN _⟩
  · obtain rfl : c = 0 := by omega
    clear h1
    rcases (show r = 1 ∨ r = 2 ∨ r = 3 by omega) with rfl | rfl | rfl
    all_goals
      go_enter Tryz.func60, Tryz.ntmps60
      go_wp2
      go_ret
      exact ⟨rfl, by first | exact Bel.rf.al _ | exact (Bel.rf.al _).drwN _⟩
theorem asc_vrs {l : List Rp} (h : Asc l) : Vrs l := fun i hi => h.1 i hi
set_option maxHeartbeats 4000000 in
theorem regular_ok (A : Option Addr) (c n : Nat) (l : List Rp) (hn : n ≤ 2000) (hs : Asc l) (w : World) (h : Zr w A n l) :
    Calls Tryz.prog 61 #[.slice A n c] w fun e w' => e = .returned (.int .i64 0) ∧ Bel w w' := by
  have H1 := Lib.hid h
  have HS := Lib.hid hs
  have ni : (n : Int) ≤ 2000 := by omega
  clear h hs
  go_enter Tryz.func61, Tryz.ntmps61
  go_wp2_with (go_at_call 87; refine (readings_ok A c n l hn (asc_vrs HS.out) _ H1.out).mono ?_; rintro e w1 ⟨rfl, hb1⟩)
  go_loopw [4] (fun s4 wr => ∃ (k : Nat) (V : World), V = wr ∧ 1 ≤ k ∧ k ≤ n + 1 ∧ s4 = .int .i64 (k : Int) ∧ Bel w wr) (fun s4 _ => n + 1 - (intOf s4).toNat)
  case atStart => exact ⟨1, _, rfl, by omega, by omega, rfl, by first | exact hb1 | exact hb1.drwN _⟩
  case round =>
    obtain ⟨k, wr, hwr, hk0, hk, rfl, hb⟩ := hrel
    subst hwr
    have HB := Lib.hid hb
    rcases Nat.lt_or_ge k n with hlt | hge
    · obtain ⟨g, rfl, hab, hac⟩ := (H1.out.bel hb).2 (by omega)
      obtain ⟨c1, c2⟩ := hac k hlt
      obtain ⟨p, hp⟩ : ∃ p, k - 1 = p := ⟨_, rfl⟩
      obtain ⟨c3, c4⟩ := hac p (by omega)
      have hx := HS.out.lt (show p < k by omega) (by rw [H1.out.1]; exact hlt)
      obtain ⟨x, hxe⟩ : ∃ x, tm l k = x := ⟨_, rfl⟩
      obtain ⟨y, hye⟩ : ∃ x, tm l p = x := ⟨_, rfl⟩
      rw [hxe] at c1 hx
      rw [hye] at c3 hx
      have ki : (k : Int) < (n : Int) := by omega
      have kp : (k : Int) - 1 = (p : Int) := by omega
      have pi : (p : Int) < (n : Int) := by omega
      have e1 : ¬ x ≤ y := by omega
      have e2 : decide (x ≤ y) = false := by simpa using hx
      clear hb hac hab hxe hye hx c2 c4 hb1
      go_wp2
      go_quiet (fail)
      go_wp2
      go_roundw
      case rel => exact ⟨k + 1, _, rfl, by omega, by omega, by go_num, by first | exact HB.out | exact HB.out.drwN _⟩
      case measure => simp [intOf]; omega
    · have ki : (n : Int) ≤ (k : Int) := by omega
      clear hb hb1
      go_wp2
      go_ret
      exact ⟨rfl, by first | exact HB.out | exact HB.out.drwN _⟩
end Go.Proofs.YtpbnabibnkohdaaGreatDoor.Rg
namespace Go.Proofs.YtpbnabibnkohdaaGreatDoor.Rg
open Go.ChangeShapes Go.WideShapes Go.RowKit Wo Sr Wi Rm
set_option linter.unusedVariables false
theorem res_eq {x : Int × Bool} {a : Int} {b : Bool} (h : x = (a, b)) : Ending.returned (.tuple #[.int .i64 a, .bool b]) = .returned (.tuple #[.int .i64 x.1, .bool x.2]) := by rw [h]
theorem al2_1 (w : World) (o p : Obj) {k : Nat} {t : TypeId} {cs : Array Value} (h : Bk w k t cs) : Bk ((w.alloc o).alloc p) k t cs := (h.al o).al p
set_option maxHeartbeats 8000000 in
set_option maxRecDepth 100000 in
theorem value_ok (A : Option Addr) (ca n : Nat) (l : List Rp) (hn : n ≤ 2000) (hs : Asc l) (f s c r q t : Int) (t0 : 0 ≤ t) (t1 : t ≤ 1099511627776) (r0 : 1 ≤ r) (r1 : r ≤ 3) (q0 : 0 ≤ q) (q1 : q ≤ 1099511627776) (w : World) (h : Zr w A n l) :
    Calls Tryz.prog 62 #[.slice A n ca, gv f s c r q, .int .i64 t] w fun e w' => e = .returned (.tuple #[.int .i64 (val l r q t).1, .bool (val l r q t).2]) ∧ Bel w w' := by
  have H1 := Lib.hid h
  have HS := Lib.hid hs
  have ni : (n : Int) ≤ 2000 := by omega
  have hL := h.1
  obtain ⟨i, hi⟩ : ∃ i, lb l t = i := ⟨_, rfl⟩
  have hile : i ≤ n := by have := lb_le l t; omega
  have HSR : Hid (∀ W, Bel w W → Calls Tryz.prog 88 #[.slice A n ca, .int .i64 t, .func (.func 89) #[] #[]] W fun e w' => e = .returned (.tuple #[.int .i64 (i : Int), .bool (decide (i < n ∧ tm l i = t))]) ∧ Bel W w') := fun W hW => by
    have := search_ok A ca n l hn HS.out t W (H1.out.bel hW)
    rwa [hi] at this
  unfold gv
  clear h hs
  rcases Classical.em (i < n ∧ tm l i = t) with hex | hex
  · have HV : Hid (val l r q t = (vl l i, true)) := by
      show _ = _
      unfold val
      rw [hi, hL, if_pos hex]
    have hd : decide (i < n ∧ tm l i = t) = true := decide_eq_true hex
    rw [hd] at HSR
    have HEX := Lib.hid hex
    have ii : (i : Int) < (n : Int) := by omega
    clear hd hex hi
    go_enter Tryz.func62, Tryz.ntmps62
    go_wp2_with fail
    go_at_call 88
    refine (HSR.out _ (Bel.rf.al _)).mono ?_
    rintro e w1 ⟨rfl, hb⟩
    have HB : Hid (Bel w w1) := (Bel.rf.al _).tr hb
    clear hb
    obtain ⟨g, rfl, hab, hac⟩ := (H1.out.bel HB.out).2 (by omega)
    obtain ⟨c1, c2⟩ := hac i (by omega)
    clear hab hac
    go_wp2
    go_ret2
    exact ⟨res_eq HV.out, by first | exact HB.out | exact HB.out.drwN _⟩
  · have hd : decide (i < n ∧ tm l i = t) = false := decide_eq_false hex
    rw [hd] at HSR
    have HEX := Lib.hid hex
    obtain ⟨B, hB⟩ : ∃ B, bck l t = B := ⟨_, rfl⟩
    obtain ⟨D, hD⟩ : ∃ B, ahd l t = B := ⟨_, rfl⟩
    obtain ⟨u, hu⟩ : ∃ B, bv l t = B := ⟨_, rfl⟩
    obtain ⟨v, hv⟩ : ∃ B, av l t = B := ⟨_, rfl⟩
    have b1 := bck_in HS.out t0 t1
    have d1 := ahd_in HS.out t0 t1
    rw [hB] at b1
    rw [hD] at d1
    obtain ⟨b0, b1⟩ := b1
    obtain ⟨d0, d1⟩ := d1
    have HV : Hid (val l r q t = if r = 1 then (if B ≤ q then (u, true) else (0, false))
      else if r = 2 then (if B ≤ D ∧ B ≤ q then (u, true) else if D < B ∧ D ≤ q then (v, true) else (0, false))
      else if r = 3 then (if B ≤ q ∧ D ≤ q then (hup (u * D + v * B) (B + D), true) else (0, false))
      else (0, false)) := by
      show _ = _
      unfold val
      rw [hi, hL, if_neg hex, hB, hD, hu, hv]
    have HU : Hid ((0 < i → tm l (i - 1) = t - B ∧ vl l (i - 1) = u) ∧ (i = 0 → B = 1099511627777 ∧ u = 0) ∧ (i < n → tm l i = t + D ∧ vl l i = v) ∧ (i = n → D = 1099511627777 ∧ v = 0)) := by
      refine ⟨fun h0 => ?_, fun h0 => ?_, fun h0 => ?_, fun h0 => ?_⟩
      · rw [← hB, ← hu]; unfold bck bv; rw [hi, if_pos h0, if_pos h0]; omega
      · rw [← hB, ← hu]; unfold bck bv Rm.far; rw [hi, if_neg (by omega), if_neg (by omega)]; omega
      · rw [← hD, ← hv]; unfold ahd av; rw [hi, hL, if_pos h0, if_pos h0]; omega
      · rw [← hD, ← hv]; unfold ahd av Rm.far; rw [hi, hL, if_neg (by omega), if_neg (by omega)]; omega
    have uin : -1000 ≤ u ∧ u ≤ 1000 := by
      rcases Nat.lt_or_ge 0 i with h0 | h0
      · have a := HU.out.1 h0; have b := HS.out.1 (i - 1) (by omega); omega
      · have a := HU.out.2.1 (by omega); omega
    have vin : -1000 ≤ v ∧ v ≤ 1000 := by
      rcases Nat.lt_or_ge i n with h0 | h0
      · have a := HU.out.2.2.1 h0; have b := HS.out.1 i (by omega); omega
      · have a := HU.out.2.2.2 (by omega); omega
    obtain ⟨u0, u1⟩ := uin
    obtain ⟨v0, v1⟩ := vin
    have p1 := mul_in (a := u) (b := D) (x := 1000) (y := 1099511627777) (by omega) (by omega) d0 d1 (by decide)
    have p2 := mul_in (a := v) (b := B) (x := 1000) (y := 1099511627777) (by omega) (by omega) (by omega) b1 (by decide)
    have HF : Hid (∀ w, Calls Tryz.prog 91 #[.int .i64 (u * D + v * B), .int .i64 (B + D)] w fun e w' => e = .returned (.int .i64 (hup (u * D + v * B) (B + D))) ∧ w = w') := fun w => Un.half_any _ _ (by omega) (by omega) (by omega) (by omega) w
    obtain ⟨P, hP⟩ : ∃ P, u * D = P := ⟨_, rfl⟩
    obtain ⟨Q, hQ⟩ : ∃ P, v * B = P := ⟨_, rfl⟩
    rw [hP] at p1
    rw [hQ] at p2
    rw [hP, hQ] at HF HV
    obtain ⟨R, hR⟩ : ∃ R, hup (P + Q) (B + D) = R := ⟨_, rfl⟩
    rw [hR] at HF HV
    obtain ⟨p10, p11⟩ := p1
    obtain ⟨p20, p21⟩ := p2
    have HPQ := Lib.hid (And.intro hP hQ)
    have wP : IntKind.i64.wrap P = P := IntWalk.i64_in _ (by omega)
    have wQ : IntKind.i64.wrap Q = Q := IntWalk.i64_in _ (by omega)
    have wP2 : wrap64 P = P := IntWalk.wrap64_in _ (by omega)
    have wQ2 : wrap64 Q = Q := IntWalk.wrap64_in _ (by omega)
    clear hd hex hi hB hD hu hv hR
    go_enter Tryz.func62, Tryz.ntmps62
    go_wp2_with fail
    go_at_call 88
    refine (HSR.out _ (Bel.rf.al _)).mono ?_
    rintro e w1 ⟨rfl, hb⟩
    have HB : Hid (Bel w w1) := (Bel.rf.al _).tr hb
    have KB := Bk.bel (Bk.nw w 72 #[.int .i64 f, .int .i64 s, .int .i64 c, .int .i64 r, .int .i64 q]) hb
    have hsz : w.heap.size < w1.heap.size := KB.lt
    have k3 := KB.cell 3
    have k4 := KB.cell 4
    simp at k3 k4
    have HK := Lib.hid KB
    clear hb KB
    have HK3 := Lib.hid k3
    have HK4 := Lib.hid k4
    rcases Nat.lt_or_ge 0 i with hi0 | hi0
    · obtain ⟨g, hA, hab, hac⟩ := (H1.out.bel HB.out).2 (by omega)
      subst hA
      obtain ⟨p, hp⟩ : ∃ p, i - 1 = p := ⟨_, rfl⟩
      obtain ⟨c1, c2⟩ := hac p (by omega)
      have HAC := Lib.hid hac
      obtain ⟨e1, e2⟩ := HU.out.1 hi0
      rw [hp] at e1 e2
      rw [e2] at c2
      obtain ⟨x, hx⟩ : ∃ x, tm l p = x := ⟨_, rfl⟩
      rw [hx] at c1 e1
      have hxB : t - x = B := by omega
      have wB : IntKind.i64.wrap B = B := IntWalk.i64_in _ (by omega)
      have wB2 : wrap64 B = B := IntWalk.wrap64_in _ (by omega)
      have ip : (i : Int) - 1 = (p : Int) := by omega
      have i0 : (0 : Int) < (i : Int) := by omega
      have pn : (p : Int) < (n : Int) := by omega
      have hne : g ≠ w1.heap.size := by omega
      have hne2 : g ≠ w1.heap.size + 1 := by omega
      clear e1 e2 hx hp hac
      go_wp2
      generalize hW : ((w1.alloc (Obj.cells #[Value.int IntKind.i64 0, Value.int IntKind.i64 0] 100)).alloc (Obj.cells #[Value.int IntKind.i64 0, Value.int IntKind.i64 0] 100)) = W
      have HBW : Hid (Bel w1 W) := by show Bel _ _; rw [← hW]; exact (Bel.rf.al _).al _
      have K1 : Bk W w1.heap.size 100 #[.int .i64 0, .int .i64 0] := by rw [← hW]; exact (Bk.nw w1 _ _).al _
      have K2 : Bk W (w1.heap.size + 1) 100 #[.int .i64 0, .int .i64 0] := by rw [← hW]; exact Bk.nq _ _ _ (by simp)
      clear hW
      replace c1 := HBW.out.kp c1
      replace c2 := HBW.out.kp c2
      replace k3 := HBW.out.kp k3
      replace k4 := HBW.out.kp k4
      have f0 := K1.fr 0
      have f1 := K1.fr 1
      have z0 := K1.cell 0
      have z1 := K1.cell 1
      simp at z0 z1
      clear k3 k4
      go_wp2
      go_region
      rcases Nat.lt_or_ge i n with hin | hin
      · have ii : (i : Int) < (n : Int) := by omega
        go_wp2
        generalize hX : ((W.setCell { block := w1.heap.size, off := 0 } (Value.int IntKind.i64 x)).setCell { block := w1.heap.size, off := 1 } (Value.int IntKind.i64 u)).drew = X
        have HBX : Hid (Bel w1 X) := by show Bel _ _; rw [← hX]; exact (((HBW.out).st (p := { block := w1.heap.size, off := 0 }) (by simp) _).st (p := { block := w1.heap.size, off := 1 }) (by simp) _).drw
        have L1 : Bk X w1.heap.size 100 #[.int .i64 x, .int .i64 u] := by rw [← hX]; exact ((K1.st 0 _).st 1 _).drw
        have L2 : Bk X (w1.heap.size + 1) 100 #[.int .i64 0, .int .i64 0] := by rw [← hX]; exact ((K2.far (p := { block := w1.heap.size, off := 0 }) (by simp) _).far (p := { block := w1.heap.size, off := 1 }) (by simp) _).drw
        clear hX K1 K2 c1 c2 f0 f1 z0 z1
        have k3 := HBX.out.kp (p := ⟨w.heap.size, 3, none⟩) (HK3.out)
        have k4 := HBX.out.kp (p := ⟨w.heap.size, 4, none⟩) (HK4.out)
        have l1 := L1.cell 1
        simp at l1
        obtain ⟨d1c, d2c⟩ := HAC.out i hin
        obtain ⟨e3, e4⟩ := HU.out.2.2.1 hin
        rw [e4] at d2c
        obtain ⟨y, hy⟩ : ∃ x, tm l i = x := ⟨_, rfl⟩
        rw [hy] at d1c e3
        have hyD : y - t = D := by omega
        have wD : IntKind.i64.wrap D = D := IntWalk.i64_in _ (by omega)
        have wD2 : wrap64 D = D := IntWalk.wrap64_in _ (by omega)
        clear e3 e4 hy
        replace d1c := HBX.out.kp d1c
        replace d2c := HBX.out.kp d2c
        have f0 := L2.fr 0
        have f1 := L2.fr 1
        have z0 := L2.cell 0
        have z1 := L2.cell 1
        simp at z0 z1
        clear k3 k4
        go_wp2
        go_region
        generalize hX : ((X.setCell { block := w1.heap.size + 1, off := 0 } (Value.int IntKind.i64 y)).setCell { block := w1.heap.size + 1, off := 1 } (Value.int IntKind.i64 v)).drew = Y
        have HBY : Hid (Bel w1 Y) := by show Bel _ _; rw [← hX]; exact (((HBX.out).st (p := { block := w1.heap.size + 1, off := 0 }) (by simp) _).st (p := { block := w1.heap.size + 1, off := 1 }) (by simp) _).drw
        have M1 : Bk Y w1.heap.size 100 #[.int .i64 x, .int .i64 u] := by rw [← hX]; exact ((L1.far (p := { block := w1.heap.size + 1, off := 0 }) (by simp) _).far (p := { block := w1.heap.size + 1, off := 1 }) (by simp) _).drw
        have M2 : Bk Y (w1.heap.size + 1) 100 #[.int .i64 y, .int .i64 v] := by rw [← hX]; exact ((L2.st 0 _).st 1 _).drw
        clear hX L1 L2 d1c d2c f0 f1 z0 z1 l1
        have k3 := HBY.out.kp (p := ⟨w.heap.size, 3, none⟩) (HK3.out)
        have k4 := HBY.out.kp (p := ⟨w.heap.size, 4, none⟩) (HK4.out)
        have l1 := M1.cell 1
        have l2 := M2.cell 1
        simp at l1 l2
        clear M1 M2
        rcases (show r = 1 ∨ r = 2 ∨ r = 3 by omega) with rfl | rfl | rfl
        · rcases Int.lt_or_le q B with hqB | hqB
          · have gq : ¬ B ≤ q := by omega
            first
            | (exfalso; omega)
            | (go_wp2
               go_ret2
               exact ⟨res_eq (HV.out.trans (by rw [if_pos trivial, if_neg (by omega)])), by first | exact HB.out.tr HBY.out | exact (HB.out.tr HBY.out).drwN _ | exact (HB.out.tr HBY.out).drw⟩)
          · first
            | (exfalso; omega)
            | (go_wp2
               go_ret2
               exact ⟨res_eq (HV.out.trans (by rw [if_pos trivial, if_pos (by omega)])), by first | exact HB.out.tr HBY.out | exact (HB.out.tr HBY.out).drwN _ | exact (HB.out.tr HBY.out).drw⟩)
        · rcases Int.lt_or_le D B with hDB | hDB
          · have gd : ¬ B ≤ D := by omega
            rcases Int.lt_or_le q D with hqD | hqD
            · have gq : ¬ D ≤ q := by omega
              first
              | (exfalso; omega)
              | (go_wp2
                 go_ret2
                 exact ⟨res_eq (HV.out.trans (by rw [if_neg (by decide), if_pos trivial, if_neg (by omega), if_neg (by omega)])), by first | exact HB.out.tr HBY.out | exact (HB.out.tr HBY.out).drwN _ | exact (HB.out.tr HBY.out).drw⟩)
            · first
              | (exfalso; omega)
              | (go_wp2
                 go_ret2
                 exact ⟨res_eq (HV.out.trans (by rw [if_neg (by decide), if_pos trivial, if_neg (by omega), if_pos (by omega)])), by first | exact HB.out.tr HBY.out | exact (HB.out.tr HBY.out).drwN _ | exact (HB.out.tr HBY.out).drw⟩)
          · have gd : ¬ D < B := by omega
            rcases Int.lt_or_le q B with hqB | hqB
            · have gq : ¬ B ≤ q := by omega
              first
              | (exfalso; omega)
              | (go_wp2
                 go_ret2
                 exact ⟨res_eq (HV.out.trans (by rw [if_neg (by decide), if_pos trivial, if_neg (by omega), if_neg (by omega)])), by first | exact HB.out.tr HBY.out | exact (HB.out.tr HBY.out).drwN _ | exact (HB.out.tr HBY.out).drw⟩)
            · first
              | (exfalso; omega)
              | (go_wp2
                 go_ret2
                 exact ⟨res_eq (HV.out.trans (by rw [if_neg (by decide), if_pos trivial, if_pos (by omega)])), by first | exact HB.out.tr HBY.out | exact (HB.out.tr HBY.out).drwN _ | exact (HB.out.tr HBY.out).drw⟩)
        · rcases Int.lt_or_le q B with hqB | hqB
          · have gq : ¬ B ≤ q := by omega
            first
            | (exfalso; omega)
            | (go_wp2
               go_ret2
               exact ⟨res_eq (HV.out.trans (by rw [if_neg (by decide), if_neg (by decide), if_pos trivial, if_neg (by omega)])), by first | exact HB.out.tr HBY.out | exact (HB.out.tr HBY.out).drwN _ | exact (HB.out.tr HBY.out).drw⟩)
          · rcases Int.lt_or_le q D with hqD | hqD
            · have gq : ¬ D ≤ q := by omega
              first
              | (exfalso; omega)
              | (go_wp2
                 go_ret2
                 exact ⟨res_eq (HV.out.trans (by rw [if_neg (by decide), if_neg (by decide), if_pos trivial, if_neg (by omega)])), by first | exact HB.out.tr HBY.out | exact (HB.out.tr HBY.out).drwN _ | exact (HB.out.tr HBY.out).drw⟩)
            · have m1 := HPQ.out.1
              have m2 := HPQ.out.2
              go_wp2_with (go_at_call 91; refine (HF.out _).mono ?_; rintro e w9 ⟨rfl, rfl⟩)
              go_ret2
              exact ⟨res_eq (HV.out.trans (by rw [if_neg (by decide), if_neg (by decide), if_pos trivial, if_pos (by omega)])), by first | exact HB.out.tr HBY.out | exact (HB.out.tr HBY.out).drwN _ | exact (HB.out.tr HBY.out).drw⟩
      · obtain rfl : i = n := by omega
        have ii : ¬ (i : Int) < (i : Int) := by omega
        obtain ⟨rfl, rfl⟩ := HU.out.2.2.2 rfl
        generalize hX : ((W.setCell { block := w1.heap.size, off := 0 } (Value.int IntKind.i64 x)).setCell { block := w1.heap.size, off := 1 } (Value.int IntKind.i64 u)).drew = X
        have HBX : Hid (Bel w1 X) := by show Bel _ _; rw [← hX]; exact (((HBW.out).st (p := { block := w1.heap.size, off := 0 }) (by simp) _).st (p := { block := w1.heap.size, off := 1 }) (by simp) _).drw
        have L1 : Bk X w1.heap.size 100 #[.int .i64 x, .int .i64 u] := by rw [← hX]; exact ((K1.st 0 _).st 1 _).drw
        have L2 : Bk X (w1.heap.size + 1) 100 #[.int .i64 0, .int .i64 0] := by rw [← hX]; exact ((K2.far (p := { block := w1.heap.size, off := 0 }) (by simp) _).far (p := { block := w1.heap.size, off := 1 }) (by simp) _).drw
        clear hX K1 K2 c1 c2 f0 f1 z0 z1
        have k3 := HBX.out.kp (p := ⟨w.heap.size, 3, none⟩) (HK3.out)
        have k4 := HBX.out.kp (p := ⟨w.heap.size, 4, none⟩) (HK4.out)
        have l1 := L1.cell 1
        simp at l1
        have l2 := L2.cell 1
        simp at l2
        have HBY := HBX
        clear L1 L2
        rcases (show r = 1 ∨ r = 2 ∨ r = 3 by omega) with rfl | rfl | rfl
        · rcases Int.lt_or_le q B with hqB | hqB
          · have gq : ¬ B ≤ q := by omega
            first
            | (exfalso; omega)
            | (go_wp2
               go_ret2
               exact ⟨res_eq (HV.out.trans (by rw [if_pos trivial, if_neg (by omega)])), by first | exact HB.out.tr HBY.out | exact (HB.out.tr HBY.out).drwN _ | exact (HB.out.tr HBY.out).drw⟩)
          · first
            | (exfalso; omega)
            | (go_wp2
               go_ret2
               exact ⟨res_eq (HV.out.trans (by rw [if_pos trivial, if_pos (by omega)])), by first | exact HB.out.tr HBY.out | exact (HB.out.tr HBY.out).drwN _ | exact (HB.out.tr HBY.out).drw⟩)
        · rcases Int.lt_or_le 1099511627777 B with hDB | hDB
          · have gd : ¬ B ≤ 1099511627777 := by omega
            rcases Int.lt_or_le q 1099511627777 with hqD | hqD
            · have gq : ¬ 1099511627777 ≤ q := by omega
              first
              | (exfalso; omega)
              | (go_wp2
                 go_ret2
                 exact ⟨res_eq (HV.out.trans (by rw [if_neg (by decide), if_pos trivial, if_neg (by omega), if_neg (by omega)])), by first | exact HB.out.tr HBY.out | exact (HB.out.tr HBY.out).drwN _ | exact (HB.out.tr HBY.out).drw⟩)
            · first
              | (exfalso; omega)
              | (go_wp2
                 go_ret2
                 exact ⟨res_eq (HV.out.trans (by rw [if_neg (by decide), if_pos trivial, if_neg (by omega), if_pos (by omega)])), by first | exact HB.out.tr HBY.out | exact (HB.out.tr HBY.out).drwN _ | exact (HB.out.tr HBY.out).drw⟩)
          · have gd : ¬ 1099511627777 < B := by omega
            rcases Int.lt_or_le q B with hqB | hqB
            · have gq : ¬ B ≤ q := by omega
              first
              | (exfalso; omega)
              | (go_wp2
                 go_ret2
                 exact ⟨res_eq (HV.out.trans (by rw [if_neg (by decide), if_pos trivial, if_neg (by omega), if_neg (by omega)])), by first | exact HB.out.tr HBY.out | exact (HB.out.tr HBY.out).drwN _ | exact (HB.out.tr HBY.out).drw⟩)
            · first
              | (exfalso; omega)
              | (go_wp2
                 go_ret2
                 exact ⟨res_eq (HV.out.trans (by rw [if_neg (by decide), if_pos trivial, if_pos (by omega)])), by first | exact HB.out.tr HBY.out | exact (HB.out.tr HBY.out).drwN _ | exact (HB.out.tr HBY.out).drw⟩)
        · rcases Int.lt_or_le q B with hqB | hqB
          · have gq : ¬ B ≤ q := by omega
            first
            | (exfalso; omega)
            | (go_wp2
               go_ret2
               exact ⟨res_eq (HV.out.trans (by rw [if_neg (by decide), if_neg (by decide), if_pos trivial, if_neg (by omega)])), by first | exact HB.out.tr HBY.out | exact (HB.out.tr HBY.out).drwN _ | exact (HB.out.tr HBY.out).drw⟩)
          · rcases Int.lt_or_le q 1099511627777 with hqD | hqD
            · have gq : ¬ 1099511627777 ≤ q := by omega
              first
              | (exfalso; omega)
              | (go_wp2
                 go_ret2
                 exact ⟨res_eq (HV.out.trans (by rw [if_neg (by decide), if_neg (by decide), if_pos trivial, if_neg (by omega)])), by first | exact HB.out.tr HBY.out | exact (HB.out.tr HBY.out).drwN _ | exact (HB.out.tr HBY.out).drw⟩)
            · exfalso; omega
    · obtain rfl : i = 0 := by omega
      obtain ⟨rfl, rfl⟩ := HU.out.2.1 rfl
      rcases Nat.lt_or_ge 0 n with hin | hin
      · have ii : (0 : Int) < (n : Int) := by omega
        obtain ⟨g, hA, hab, hac⟩ := (H1.out.bel HB.out).2 (by omega)
        subst hA
        obtain ⟨d1c, d2c⟩ := hac 0 (by omega)
        obtain ⟨e3, e4⟩ := HU.out.2.2.1 (by omega)
        rw [e4] at d2c
        obtain ⟨y, hy⟩ : ∃ x, tm l 0 = x := ⟨_, rfl⟩
        rw [hy] at d1c e3
        have hyD : y - t = D := by omega
        have wD : IntKind.i64.wrap D = D := IntWalk.i64_in _ (by omega)
        have wD2 : wrap64 D = D := IntWalk.wrap64_in _ (by omega)
        have hne : g ≠ w1.heap.size := by omega
        have hne2 : g ≠ w1.heap.size + 1 := by omega
        clear e3 e4 hy hac
        go_wp2
        generalize hW : ((w1.alloc (Obj.cells #[Value.int IntKind.i64 0, Value.int IntKind.i64 0] 100)).alloc (Obj.cells #[Value.int IntKind.i64 0, Value.int IntKind.i64 0] 100)) = W
        have HBW : Hid (Bel w1 W) := by show Bel _ _; rw [← hW]; exact (Bel.rf.al _).al _
        have K1 : Bk W w1.heap.size 100 #[.int .i64 0, .int .i64 0] := by rw [← hW]; exact (Bk.nw w1 _ _).al _
        have K2 : Bk W (w1.heap.size + 1) 100 #[.int .i64 0, .int .i64 0] := by rw [← hW]; exact Bk.nq _ _ _ (by simp)
        clear hW
        rw [Nat.zero_mul] at d1c
        replace d1c := HBW.out.kp d1c
        replace d2c := HBW.out.kp d2c
        replace k3 := HBW.out.kp k3
        replace k4 := HBW.out.kp k4
        have f0 := K2.fr 0
        have f1 := K2.fr 1
        have z0 := K2.cell 0
        have z1 := K2.cell 1
        simp at z0 z1
        clear k3 k4
        go_wp2
        go_region
        generalize hX : ((W.setCell { block := w1.heap.size + 1, off := 0 } (Value.int IntKind.i64 y)).setCell { block := w1.heap.size + 1, off := 1 } (Value.int IntKind.i64 v)).drew = Y
        have HBY : Hid (Bel w1 Y) := by show Bel _ _; rw [← hX]; exact (((HBW.out).st (p := { block := w1.heap.size + 1, off := 0 }) (by simp) _).st (p := { block := w1.heap.size + 1, off := 1 }) (by simp) _).drw
        have M1 : Bk Y w1.heap.size 100 #[.int .i64 0, .int .i64 0] := by rw [← hX]; exact ((K1.far (p := { block := w1.heap.size + 1, off := 0 }) (by simp) _).far (p := { block := w1.heap.size + 1, off := 1 }) (by simp) _).drw
        have M2 : Bk Y (w1.heap.size + 1) 100 #[.int .i64 y, .int .i64 v] := by rw [← hX]; exact ((K2.st 0 _).st 1 _).drw
        clear hX K1 K2 d1c d2c f0 f1 z0 z1
        have k3 := HBY.out.kp (p := ⟨w.heap.size, 3, none⟩) (HK3.out)
        have k4 := HBY.out.kp (p := ⟨w.heap.size, 4, none⟩) (HK4.out)
        have l1 := M1.cell 1
        have l2 := M2.cell 1
        simp at l1 l2
        clear M1 M2
        rcases (show r = 1 ∨ r = 2 ∨ r = 3 by omega) with rfl | rfl | rfl
        · rcases Int.lt_or_le q 1099511627777 with hqB | hqB
          · have gq : ¬ 1099511627777 ≤ q := by omega
            first
            | (exfalso; omega)
            | (go_wp2
               go_ret2
               exact ⟨res_eq (HV.out.trans (by rw [if_pos trivial, if_neg (by omega)])), by first | exact HB.out.tr HBY.out | exact (HB.out.tr HBY.out).drwN _ | exact (HB.out.tr HBY.out).drw⟩)
          · first
            | (exfalso; omega)
            | (go_wp2
               go_ret2
               exact ⟨res_eq (HV.out.trans (by rw [if_pos trivial, if_pos (by omega)])), by first | exact HB.out.tr HBY.out | exact (HB.out.tr HBY.out).drwN _ | exact (HB.out.tr HBY.out).drw⟩)
        · rcases Int.lt_or_le D 1099511627777 with hDB | hDB
          · have gd : ¬ 1099511627777 ≤ D := by omega
            rcases Int.lt_or_le q D with hqD | hqD
            · have gq : ¬ D ≤ q := by omega
              first
              | (exfalso; omega)
              | (go_wp2
                 go_ret2
                 exact ⟨res_eq (HV.out.trans (by rw [if_neg (by decide), if_pos trivial, if_neg (by omega), if_neg (by omega)])), by first | exact HB.out.tr HBY.out | exact (HB.out.tr HBY.out).drwN _ | exact (HB.out.tr HBY.out).drw⟩)
            · first
              | (exfalso; omega)
              | (go_wp2
                 go_ret2
                 exact ⟨res_eq (HV.out.trans (by rw [if_neg (by decide), if_pos trivial, if_neg (by omega), if_pos (by omega)])), by first | exact HB.out.tr HBY.out | exact (HB.out.tr HBY.out).drwN _ | exact (HB.out.tr HBY.out).drw⟩)
          · have gd : ¬ D < 1099511627777 := by omega
            rcases Int.lt_or_le q 1099511627777 with hqB | hqB
            · have gq : ¬ 1099511627777 ≤ q := by omega
              first
              | (exfalso; omega)
              | (go_wp2
                 go_ret2
                 exact ⟨res_eq (HV.out.trans (by rw [if_neg (by decide), if_pos trivial, if_neg (by omega), if_neg (by omega)])), by first | exact HB.out.tr HBY.out | exact (HB.out.tr HBY.out).drwN _ | exact (HB.out.tr HBY.out).drw⟩)
            · first
              | (exfalso; omega)
              | (go_wp2
                 go_ret2
                 exact ⟨res_eq (HV.out.trans (by rw [if_neg (by decide), if_pos trivial, if_pos (by omega)])), by first | exact HB.out.tr HBY.out | exact (HB.out.tr HBY.out).drwN _ | exact (HB.out.tr HBY.out).drw⟩)
        · rcases Int.lt_or_le q 1099511627777 with hqB | hqB
          · have gq : ¬ 1099511627777 ≤ q := by omega
            first
            | (exfalso; omega)
            | (go_wp2
               go_ret2
               exact ⟨res_eq (HV.out.trans (by rw [if_neg (by decide), if_neg (by decide), if_pos trivial, if_neg (by omega)])), by first | exact HB.out.tr HBY.out | exact (HB.out.tr HBY.out).drwN _ | exact (HB.out.tr HBY.out).drw⟩)
          · rcases Int.lt_or_le q D with hqD | hqD
            · have gq : ¬ D ≤ q := by omega
              first
              | (exfalso; omega)
              | (go_wp2
                 go_ret2
                 exact ⟨res_eq (HV.out.trans (by rw [if_neg (by decide), if_neg (by decide), if_pos trivial, if_neg (by omega)])), by first | exact HB.out.tr HBY.out | exact (HB.out.tr HBY.out).drwN _ | exact (HB.out.tr HBY.out).drw⟩)
            · exfalso; omega
      · obtain rfl : n = 0 := by omega
        obtain ⟨rfl, rfl⟩ := HU.out.2.2.2 rfl
        have k3' : ∀ o p, ((w1.alloc o).alloc p).cell? ⟨w.heap.size, 3, none⟩ = some (.int .i64 r) := fun o p => kp_al (kp_al k3 o) p
        have k4' : ∀ o p, ((w1.alloc o).alloc p).cell? ⟨w.heap.size, 4, none⟩ = some (.int .i64 q) := fun o p => kp_al (kp_al k4 o) p
        rcases (show r = 1 ∨ r = 2 ∨ r = 3 by omega) with rfl | rfl | rfl
        · rcases Int.lt_or_le q 1099511627777 with hqB | hqB
          · have gq : ¬ 1099511627777 ≤ q := by omega
            first
            | (exfalso; omega)
            | (go_wp2
               go_ret2
               exact ⟨res_eq (HV.out.trans (by rw [if_pos trivial, if_neg (by omega)])), by first | exact (HB.out.al _).al _ | exact ((HB.out.al _).al _).drwN _⟩)
          · first
            | (exfalso; omega)
            | (go_wp2
               go_ret2
               exact ⟨res_eq (HV.out.trans (by rw [if_pos trivial, if_pos (by omega)])), by first | exact (HB.out.al _).al _ | exact ((HB.out.al _).al _).drwN _⟩)
        · rcases Int.lt_or_le 1099511627777 1099511627777 with hDB | hDB
          · have gd : ¬ 1099511627777 ≤ 1099511627777 := by omega
            rcases Int.lt_or_le q 1099511627777 with hqD | hqD
            · have gq : ¬ 1099511627777 ≤ q := by omega
              first
              | (exfalso; omega)
              | (go_wp2
                 go_ret2
                 exact ⟨res_eq (HV.out.trans (by rw [if_neg (by decide), if_pos trivial, if_neg (by omega), if_neg (by omega)])), by first | exact (HB.out.al _).al _ | exact ((HB.out.al _).al _).drwN _⟩)
            · first
              | (exfalso; omega)
              | (go_wp2
                 go_ret2
                 exact ⟨res_eq (HV.out.trans (by rw [if_neg (by decide), if_pos trivial, if_neg (by omega), if_pos (by omega)])), by first | exact (HB.out.al _).al _ | exact ((HB.out.al _).al _).drwN _⟩)
          · have gd : ¬ 1099511627777 < 1099511627777 := by omega
            rcases Int.lt_or_le q 1099511627777 with hqB | hqB
            · have gq : ¬ 1099511627777 ≤ q := by omega
              first
              | (exfalso; omega)
              | (go_wp2
                 go_ret2
                 exact ⟨res_eq (HV.out.trans (by rw [if_neg (by decide), if_pos trivial, if_neg (by omega), if_neg (by omega)])), by first | exact (HB.out.al _).al _ | exact ((HB.out.al _).al _).drwN _⟩)
            · first
              | (exfalso; omega)
              | (go_wp2
                 go_ret2
                 exact ⟨res_eq (HV.out.trans (by rw [if_neg (by decide), if_pos trivial, if_pos (by omega)])), by first | exact (HB.out.al _).al _ | exact ((HB.out.al _).al _).drwN _⟩)
        · rcases Int.lt_or_le q 1099511627777 with hqB | hqB
          · have gq : ¬ 1099511627777 ≤ q := by omega
            first
            | (exfalso; omega)
            | (go_wp2
               go_ret2
               exact ⟨res_eq (HV.out.trans (by rw [if_neg (by decide), if_neg (by decide), if_pos trivial, if_neg (by omega)])), by first | exact (HB.out.al _).al _ | exact ((HB.out.al _).al _).drwN _⟩)
          · rcases Int.lt_or_le q 1099511627777 with hqD | hqD
            · have gq : ¬ 1099511627777 ≤ q := by omega
              first
              | (exfalso; omega)
              | (go_wp2
                 go_ret2
                 exact ⟨res_eq (HV.out.trans (by rw [if_neg (by decide), if_neg (by decide), if_pos trivial, if_neg (by omega)])), by first | exact (HB.out.al _).al _ | exact ((HB.out.al _).al _).drwN _⟩)
            · exfalso; omega
end Go.Proofs.YtpbnabibnkohdaaGreatDoor.Rg
namespace Go.Proofs.YtpbnabibnkohdaaGreatDoor.Rg
open Go.ChangeShapes Go.WideShapes Go.RowKit Wo Sr Wi Rm
set_option linter.unusedVariables false
theorem snoc_tm (l : List Rp) (p : Rp) (i : Nat) : tm (l ++ [p]) i = if i < l.length then tm l i else if i = l.length then p.1 else 0 := by
  unfold tm
  rw [List.getD_eq_getElem?_getD, List.getD_eq_getElem?_getD, List.getElem?_append]
  split
  · rfl
  · split
    · rename_i h; subst h; simp
    · rw [List.getElem?_eq_none (by simp; omega)]; rfl
theorem snoc_vl (l : List Rp) (p : Rp) (i : Nat) : vl (l ++ [p]) i = if i < l.length then vl l i else if i = l.length then p.2 else 0 := by
  unfold vl
  rw [List.getD_eq_getElem?_getD, List.getD_eq_getElem?_getD, List.getElem?_append]
  split
  · rfl
  · split
    · rename_i h; subst h; simp
    · rw [List.getElem?_eq_none (by simp; omega)]; rfl
theorem asc_snoc {l : List Rp} (h : Asc l) (a b : Int) (ha : ∀ i, i < l.length → tm l i < a) (a0 : 0 ≤ a) (a1 : a ≤ 1099511627776) (b0 : -1000 ≤ b) (b1 : b ≤ 1000) : Asc (l ++ [(a, b)]) := by
  have hl : (l ++ [(a, b)]).length = l.length + 1 := by simp
  refine ⟨fun i hi => ?_, fun i hi => ?_⟩
  · rw [hl] at hi
    rw [snoc_tm, snoc_vl]
    by_cases h2 : i < l.length
    · rw [if_pos h2, if_pos h2]; exact h.1 i h2
    · rw [if_neg h2, if_neg h2, if_pos (by omega), if_pos (by omega)]; exact ⟨a0, a1, b0, b1⟩
  · rw [hl] at hi
    rw [snoc_tm, snoc_tm, if_pos (by omega)]
    by_cases h2 : i + 1 < l.length
    · rw [if_pos h2]; exact h.2 i h2
    · rw [if_neg h2, if_pos (by omega)]; exact ha i (by omega)
theorem asc_nil : Asc [] := ⟨fun i hi => by simp at hi, fun i hi => by simp at hi⟩
/-- a new row of readings that ascend -/
def SomeAsc (g m : Nat) (w : World) (e : Ending) (w' : World) : Prop := ∃ (v : Value) (k : Nat) (l : List Rp), e = .returned v ∧ w'.ownsRow w.heap.size 100 2 v k (rs l) ∧ l.length = k ∧ k ≤ m ∧ Asc l ∧ (0 < k → tm l 0 ≤ 1099511627488) ∧ Ok w' g ∧ Ch g w w'
def AI (N : Nat) (g base : Nat) (w : World) (s5 s6 s7 : Value) (wr : World) : Prop := ∃ (k : Nat) (l : List Rp) (t i : Int) (V : World) (u : Value), V = wr ∧ u = s5 ∧ k ≤ N ∧ s7 = .int .i64 i ∧ i = (N : Int) - (k : Int) ∧ s6 = .int .i64 t ∧
  wr.ownsRow base 100 2 s5 k (rs l) ∧ l.length = k ∧ Asc l ∧ (∀ i, i < k → tm l i ≤ t) ∧ 0 ≤ t ∧ t ≤ 1099511627476 + 12 * (k : Int) ∧ (0 < k → tm l 0 ≤ 1099511627488) ∧ Ok wr g ∧ Ch g w wr ∧ base ≤ wr.heap.size
theorem ai_step {N g k : Nat} {w wr w1 w2 : World} {s5 v' : Value} {l : List Rp} {t x y : Int} (hgb : g < w.heap.size) (hk : k < N) (hN : N ≤ 25) (hL : l.length = k) (hv : Asc l) (hle : ∀ i, i < k → tm l i ≤ t) (t0 : 0 ≤ t) (t1 : t ≤ 1099511627476 + 12 * (k : Int)) (hf : 0 < k → tm l 0 ≤ 1099511627488) (x0 : 1 ≤ x) (x1 : x ≤ 12) (y0 : -1000 ≤ y) (y1 : y ≤ 1000)
    (hown : wr.ownsRow w.heap.size 100 2 s5 k (rs l)) (ho1 : Ok w1 g) (hc1 : Ch g wr w1) (hb : Ch g w wr) (hbase : w.heap.size ≤ wr.heap.size) (o : Obj)
    (hown2 : w2.ownsRow w.heap.size 100 2 v' (k + 1) (rs (l ++ [(t + x, y)]))) (hgr : (w1.alloc o).grownBy w2 s5.ownBlock) :
    AI N g w.heap.size w v' (.int .i64 (t + x)) (.int .i64 ((N : Int) - (k : Int) - 1)) w2 := by
  have hrow : ∀ b, s5.ownBlock = some b → w.heap.size ≤ b := fun b e => (hown.lt b e).1
  refine ⟨k + 1, l ++ [(t + x, y)], t + x, _, _, _, rfl, rfl, by omega, rfl, by omega, rfl, hown2, by simp [hL], asc_snoc hv _ _ (fun i hi => by have := hle i (by omega); omega) (by omega) (by omega) y0 y1, fun i hi => ?_, by omega, by omega, fun _ => ?_, ?_, ?_, ?_⟩
  · rw [snoc_tm]
    by_cases h2 : i < l.length
    · rw [if_pos h2]; have := hle i (by omega); omega
    · rw [if_neg h2, if_pos (by omega)]; exact Int.le_refl _
  · rw [snoc_tm]
    by_cases h2 : 0 < l.length
    · rw [if_pos h2]; exact hf (by omega)
    · rw [if_neg h2, if_pos (by omega)]; show t + x ≤ _; omega
  · exact ok_grown (ho1.bel (Bel.rf.al _)) hgr (fun b e => by have := hrow b e; omega)
  · exact ch_grown ((hb.tr hc1).al _) hgr hrow
  · have := hgr.size
    have := hc1.sz
    simp at *
    omega
end Go.Proofs.YtpbnabibnkohdaaGreatDoor.Rg
namespace Go.Proofs.YtpbnabibnkohdaaGreatDoor.Rg
open Go.ChangeShapes Go.WideShapes Go.RowKit Wo Sr Wi Rm
set_option linter.unusedVariables false
theorem wp_make_any {P : Program} (w : World) {o : Oper} {a : Act} {K : Act → World → Prop} {Q : Exit → Act → World → Prop}
    (l c : Operand) (t : TypeId) (hop : o.op = Op.makeSlice t l c)
    (e : TypeId) (i : TypeInfo) (z : Value) (size : Nat) (h1 : P.underlying t = some (.slice e)) (h2 : P.info? e = some i) (h3 : i.zero = some z) (h4 : i.size = size)
    (kl kc : IntKind) (L C : Int) (m n : Nat) (hl : a.eval l = .int kl L) (hc : a.eval c = .int kc C) (hL : L = (m : Int)) (hC : C = (n : Int)) (hmn : m ≤ n) (b2 : i.bytes * n ≤ 281474976710656) (b3 : n ≤ 4611686018427387904)
    (hK : K (a.put o.dst (.slice (some ⟨w.heap.size, 0, none⟩) m n)) (w.alloc (.cells (madeCells z.cells (n * size)) e))) : o.wp P a w K Q := by
  have hb' : (i.bytes : Int) * (n : Int) ≤ 281474976710656 := by
    have h : ((i.bytes * n : Nat) : Int) ≤ 281474976710656 := by omega
    rwa [Int.natCast_mul] at h
  have hr := run_make (P := P) w t e i z h1 h2 h3 kl kc m n (by omega) (by omega) hb' (by omega)
  simp only [Int.toNat_natCast] at hr
  subst hL
  subst hC
  subst h4
  unfold Oper.wp
  simp [execOp, hop, hl, hc, hr, Result.andThen]
  exact hK
theorem step_make_any {P : Program} (w : World) {ops : Array Oper} {o : Oper} {a : Act} {K : Act → World → Prop} {Q : Exit → Act → World → Prop} {E : Prop} (hgd : o.guard = none)
    (l c : Operand) (t : TypeId) (hop : o.op = Op.makeSlice t l c)
    (e : TypeId) (i : TypeInfo) (z : Value) (size : Nat) (h1 : P.underlying t = some (.slice e)) (h2 : P.info? e = some i) (h3 : i.zero = some z) (h4 : i.size = size)
    (kl kc : IntKind) (L C : Int) (m n : Nat) (hl : a.eval l = .int kl L) (hc : a.eval c = .int kc C) (hL : L = (m : Int)) (hC : C = (n : Int)) (hmn : m ≤ n) (b2 : i.bytes * n ≤ 281474976710656) (b3 : n ≤ 4611686018427387904)
    (hK : K (a.put o.dst (.slice (some ⟨w.heap.size, 0, none⟩) m n)) (w.alloc (.cells (madeCells z.cells (n * size)) e))) :
    if Region.wanted o (yielded ops a.tmps) = true then Oper.wp P o a w K Q else E := by
  have hw : Region.wanted o (yielded ops a.tmps) = true := by simp [Region.wanted, hgd]
  rw [if_pos hw]
  exact wp_make_any w l c t hop e i z size h1 h2 h3 h4 kl kc L C m n hl hc hL hC hmn b2 b3 hK
/-- a grid as a result of its own -/
theorem results_g {fn : Func} {p : Tmp} (h : fn.results = #[.cell p 72]) (tmps : Array Value) (w : World) (g : Nat) (a b c d e : Value)
    (hp : tmps.getD p undef = .pointer (some ⟨g, 0, none⟩)) (hg : Bk w g 72 #[a, b, c, d, e]) :
    (results fn tmps).run Tryz.prog w = .ok (.agg #[a, b, c, d, e]) w := by
  have hp' : tmps[p]?.getD undef = .pointer (some ⟨g, 0, none⟩) := by simpa using hp
  have hl := run_loadVar_row (P := Tryz.prog) w g 72 72 #[a, b, c, d, e] (0, 0) _ hg Tryz.underlying72 rfl (by kernel_rfl)
  simp [results, h, hp', asAddr, hl]
/-- a series and an error -/
theorem results_s {fn : Func} {p u : Tmp} (h : fn.results = #[.cell p 68, .tmp u]) (tmps : Array Value) (w : World) (g : Nat) (a b c : Value)
    (hp : tmps.getD p undef = .pointer (some ⟨g, 0, none⟩)) (hg : Bk w g 68 #[a, b, c]) :
    (results fn tmps).run Tryz.prog w = .ok (.tuple #[.agg #[a, b, c], tmps.getD u undef]) w := by
  have hp' : tmps[p]?.getD undef = .pointer (some ⟨g, 0, none⟩) := by simpa using hp
  have hl := run_loadVar_row (P := Tryz.prog) w g 68 68 #[a, b, c] (0, 0) _ hg Tryz.underlying68 rfl (by kernel_rfl)
  simp [results, h, hp', asAddr, hl]
end Go.Proofs.YtpbnabibnkohdaaGreatDoor.Rg
namespace Go.Proofs.YtpbnabibnkohdaaGreatDoor.Rg
open Go.ChangeShapes Go.WideShapes Go.RowKit Wo Sr Wi Rm
set_option linter.unusedVariables false
def vz (p : Int × Bool) : Int := if p.2 = true then p.1 else 1073741824
def vals (l : List Rp) (f s r q : Int) (N : Nat) : List Int := (List.range N).map fun (i : Nat) => vz (val l r q (f + (i : Int) * s))
theorem vals_len (l : List Rp) (f s r q : Int) (N : Nat) : (vals l f s r q N).length = N := by simp [vals]
theorem vals_at (l : List Rp) (f s r q : Int) (N i : Nat) (h : i < N) : (vals l f s r q N).getD i 0 = vz (val l r q (f + (i : Int) * s)) := by
  rw [List.getD_eq_getElem?_getD, vals, List.getElem?_map, List.getElem?_range h]; rfl
theorem bk_set {w : World} {h : Nat} {t : TypeId} {M : List Int} (hb : Bk w h t (zs M).toArray) (k : Nat) (v : Int) : Bk (w.setCell ⟨h, k, none⟩ (.int .i64 v)) h t (zs (M.set k v)).toArray := by
  have := hb.st k (.int .i64 v)
  have e : (zs M).toArray.setIfInBounds k (.int .i64 v) = (zs (M.set k v)).toArray := by simp [zs, List.map_set]
  rwa [e] at this
theorem set_at (A : List Int) (k i : Nat) (y : Int) : (A.set k y).getD i 0 = if i = k ∧ i < A.length then y else A.getD i 0 := by
  rw [List.getD_eq_getElem?_getD, List.getD_eq_getElem?_getD, List.getElem?_set]
  rcases Classical.em (k = i) with rfl | h
  · rcases Nat.lt_or_ge k A.length with h2 | h2
    · simp [h2]
    · simp [Nat.not_lt.2 h2]
  · rw [if_neg h, if_neg (by omega)]
theorem lists_eq {A B : List Int} (hl : A.length = B.length) (h : ∀ i, i < A.length → A.getD i 0 = B.getD i 0) : A = B := by
  apply List.ext_getElem?
  intro i
  rcases Nat.lt_or_ge i A.length with hi | hi
  · have := h i hi
    rw [List.getD_eq_getElem?_getD, List.getD_eq_getElem?_getD, List.getElem?_eq_getElem hi, List.getElem?_eq_getElem (by omega)] at this
    rw [List.getElem?_eq_getElem hi, List.getElem?_eq_getElem (by omega)]
    exact congrArg some this
  · rw [List.getElem?_eq_none hi, List.getElem?_eq_none (by omega)]
set_option maxHeartbeats 8000000 in
set_option maxRecDepth 100000 in
theorem apply_ok (A : Option Addr) (ca n : Nat) (l : List Rp) (hn : n ≤ 2000) (hs : Asc l) (f s r q : Int) (N : Nat) (hg : Gv f s (N : Int) r q) (w : World) (h : Zr w A n l) :
    Calls Tryz.prog 35 #[.slice A n ca, gv f s (N : Int) r q] w fun e w' => ∃ gq : Nat, e = .returned (.tuple #[.agg #[.int .i64 f, .int .i64 s, .slice (some ⟨gq, 0, none⟩) N N], .int .i64 0]) ∧ w.heap.size ≤ gq ∧ Bk w' gq 3 (zs (vals l f s r q N)).toArray ∧ Bel w w' := by
  have HRG : Hid (∀ W, Bel w W → _) := fun W hW => regular_ok A ca n l hn hs W (h.bel hW)
  have HVD : Hid (∀ W, _) := fun W => valid_ok f s N r q hg W
  obtain ⟨f0, f1, s0, s1, c0, c1, h1, r0, r1, q0, q1⟩ := hg
  have HTM : Hid (∀ i : Nat, i < N → 0 ≤ (i : Int) * s ∧ f + (i : Int) * s ≤ 1099511627776) := fun i hi => by
    have a := h1 (by omega)
    have b := Int.mul_le_mul_of_nonneg_right (show (i : Int) ≤ (N : Int) - 1 by omega) (show 0 ≤ s by omega)
    exact ⟨Int.mul_nonneg (by omega) (by omega), by omega⟩
  have HVL : Hid (∀ (t : Int) W, 0 ≤ t → t ≤ 1099511627776 → Bel w W → _) := fun t W t0 t1 hW => value_ok A ca n l hn hs f s N r q t t0 t1 r0 r1 q0 q1 W (h.bel hW)
  obtain ⟨i0, hi0, hz0, hz1, hz2⟩ := info_parts info_int
  have HI := Lib.hid (And.intro hi0 (And.intro hz0 (And.intro hz1 hz2)))
  have HMK : Hid (∀ W : World, (Instr.makeSlice 22 (.int .i64 (N : Int)) (.int .i64 (N : Int))).run Tryz.prog W = .ok (.slice (some ⟨W.heap.size, 0, none⟩) N N) (W.alloc (.cells (zs (List.replicate N 0)).toArray 3))) := fun W => by
    have hr := run_make (P := Tryz.prog) W 22 3 i0 (.int .i64 0) Tryz.underlying22 hi0 hz0 .i64 .i64 (N : Int) (N : Int) (by omega) (by omega) (by rw [hz2]; omega) (by omega)
    simp only [Int.toNat_natCast] at hr
    rw [hz1, made_i64] at hr
    exact hr
  unfold gv at HVD HVL ⊢
  clear h hs h1 hi0 hz0 hz1 hz2
  go_enter Tryz.func35, Tryz.ntmps35
  go_wp2_with fail
  go_at_call 60
  refine (HVD.out _).mono ?_
  rintro e w1 ⟨rfl, hb⟩
  have KB := ((Bk.nw w 72 #[.int .i64 f, .int .i64 s, .int .i64 (N : Int), .int .i64 r, .int .i64 q]).al _).bel hb
  have KR := (Bk.nq (w.alloc (.cells #[.int .i64 f, .int .i64 s, .int .i64 (N : Int), .int .i64 r, .int .i64 q] 72)) 68 #[.int .i64 0, .int .i64 0, .slice none 0 0] (g := w.heap.size + 1) (by simp)).bel hb
  have HB1 : Hid (Bel w w1) := ((Bel.rf.al _).al _).tr hb
  have HKB := Lib.hid KB
  have HKR := Lib.hid KR
  clear hb KB KR
  go_wp2_with fail
  go_at_call 61
  refine (HRG.out _ (by first | exact HB1.out | exact HB1.out.drwN _)).mono ?_
  rintro e w2 ⟨rfl, hb⟩
  have HB2 : Hid (Bel w w2) := by first | exact HB1.out.tr hb | exact (HB1.out.drwN _).tr hb
  have KB : Bk w2 w.heap.size 72 #[.int .i64 f, .int .i64 s, .int .i64 (N : Int), .int .i64 r, .int .i64 q] := by first | exact HKB.out.bel hb | exact (HKB.out.drwN _).bel hb
  have KR : Bk w2 (w.heap.size + 1) 68 #[.int .i64 0, .int .i64 0, .slice none 0 0] := by first | exact HKR.out.bel hb | exact (HKR.out.drwN _).bel hb
  have k0 := KB.cell 0
  have k1 := KB.cell 1
  have k2 := KB.cell 2
  simp at k0 k1 k2
  have kz := KR.lt
  have k0a := fun o => kp_al k0 o
  have k0b := fun o p => kp_al (kp_al k0 o) p
  have k1a := fun o => kp_al k1 o
  have k1b := fun o p => kp_al (kp_al k1 o) p
  have k2a := fun o => kp_al k2 o
  have k2b := fun o p => kp_al (kp_al k2 o) p
  have HKB2 := Lib.hid KB
  have HKR2 := Lib.hid KR
  have hmk : ∀ W : World, (Instr.makeSlice 22 (.int .i64 (N : Int)) (.int .i64 (N : Int))).run Tryz.prog W = .ok (.slice (some ⟨W.heap.size, 0, none⟩) N N) (W.alloc (.cells (zs (List.replicate N 0)).toArray 3)) := HMK.out
  clear hb KB KR
  go_wp2
  go_region
  -- ORDERS
  · generalize hW : ((w2.alloc (.cells (zs (List.replicate N 0)).toArray 3)).alloc (.cells #[.int .i64 f, .int .i64 s, .slice (some ⟨w2.heap.size, 0, none⟩) N N] 68)).drew = W
    have HSZ : Hid (w.heap.size ≤ w2.heap.size ∧ w.heap.size + 1 < w2.heap.size) := ⟨HB2.out.size, kz⟩
    have KQ : Bk W (w2.heap.size) 3 (zs (List.replicate N 0)).toArray := by rw [← hW]; exact Bk.nw w2 _ _ |>.al _ |>.drw
    have KS : Bk W (w2.heap.size + 1) 68 #[.int .i64 f, .int .i64 s, .slice (some ⟨w2.heap.size, 0, none⟩) N N] := by rw [← hW]; exact Bk.nq _ _ _ (by simp) |>.drw
    have HBW : Hid (Bel w2 W) := by show Bel _ _; rw [← hW]; exact ((Bel.rf.al _).al _).drw
    have HR0 : Hid (∃ (k : Nat) (V : World) (M : List Int), V = W ∧ k ≤ N ∧ Value.int IntKind.i64 0 = .int .i64 (k : Int) ∧ M.length = N ∧ (∀ i, i < k → M.getD i 0 = (vals l f s r q N).getD i 0) ∧ Bk W (w2.heap.size) 3 (zs M).toArray ∧ Bk W (w2.heap.size + 1) 68 #[.int .i64 f, .int .i64 s, .slice (some ⟨w2.heap.size, 0, none⟩) N N] ∧ Bk W w.heap.size 72 #[.int .i64 f, .int .i64 s, .int .i64 (N : Int), .int .i64 r, .int .i64 q] ∧ Bk W (w.heap.size + 1) 68 #[.int .i64 0, .int .i64 0, .slice none 0 0] ∧ Bel w W) := ⟨0, _, _, rfl, by omega, rfl, by simp, fun i hi => by omega, KQ, KS, HKB2.out.bel HBW.out, HKR2.out.bel HBW.out, HB2.out.tr HBW.out⟩
    have y2 := KS.cell 2
    simp at y2
    clear hW KQ KS k0 k1 k2 k0a k0b k1a k1b k2a k2b kz hmk
    go_wp2
    go_loopw [32] (fun s32 wr => ∃ (k : Nat) (V : World) (M : List Int), V = wr ∧ k ≤ N ∧ s32 = .int .i64 (k : Int) ∧ M.length = N ∧ (∀ i, i < k → M.getD i 0 = (vals l f s r q N).getD i 0) ∧ Bk wr (w2.heap.size) 3 (zs M).toArray ∧ Bk wr (w2.heap.size + 1) 68 #[.int .i64 f, .int .i64 s, .slice (some ⟨w2.heap.size, 0, none⟩) N N] ∧ Bk wr w.heap.size 72 #[.int .i64 f, .int .i64 s, .int .i64 (N : Int), .int .i64 r, .int .i64 q] ∧ Bk wr (w.heap.size + 1) 68 #[.int .i64 0, .int .i64 0, .slice none 0 0] ∧ Bel w wr) (fun s32 _ => N - (intOf s32).toNat)
    case atStart => exact HR0.out
    case round =>
      clear HR0 y2
      obtain ⟨k, wr, M, hwr, hk, rfl, hM, hval, kq, ks, kg, kn, hb⟩ := hrel
      subst hwr
      have HQ := Lib.hid (And.intro hM (And.intro hval (And.intro kq (And.intro ks (And.intro kg (And.intro kn hb))))))
      rcases Nat.lt_or_ge k N with hlt | hge
      · have g0 := kg.cell 0
        have g1 := kg.cell 1
        have g2 := kg.cell 2
        have g3 := kg.cell 3
        have g4 := kg.cell 4
        simp at g0 g1 g2 g3 g4
        have ht := HTM.out k hlt
        obtain ⟨T, hT⟩ : ∃ T, f + (k : Int) * s = T := ⟨_, rfl⟩
        obtain ⟨P, hP⟩ : ∃ P, (k : Int) * s = P := ⟨_, rfl⟩
        rw [hP] at hT
        rw [hP] at ht
        obtain ⟨p0, p1⟩ := ht
        have wP : wrap64 P = P := IntWalk.wrap64_in _ (by omega)
        have HV2 : Hid (∀ W, Bel w W → _) := fun W hW => HVL.out (f + P) W (by omega) (by omega) hW
        have hv : (vals l f s r q N).getD k 0 = vz (val l r q (f + P)) := by rw [vals_at _ _ _ _ _ _ _ hlt, hP]
        obtain ⟨x, hx⟩ : ∃ x, (val l r q (f + P)).1 = x := ⟨_, rfl⟩
        obtain ⟨y, hy⟩ : ∃ x, (val l r q (f + P)).2 = x := ⟨_, rfl⟩
        unfold vz at hv
        rw [hx, hy] at HV2
        rw [hx, hy] at hv
        have HVE := Lib.hid hv
        have ki : (k : Int) < (N : Int) := by omega
        clear hM hval kq ks kg kn hv hx hy hT
        go_wp2_with fail
        go_at_call 62
        refine (HV2.out _ (by first | exact hb | exact hb.drwN _ | exact hb.drw)).mono ?_
        rintro e w3 ⟨rfl, hb3⟩
        have HB3 : Hid (Bel wr w3) := by first | exact hb3 | exact (Bel.rf.drwN _).tr hb3 | exact Bel.rf.drw.tr hb3
        have KS3 := HQ.out.2.2.2.1.bel HB3.out
        have KQ3 := HQ.out.2.2.1.bel HB3.out
        have z2 := KS3.cell 2
        have q2 := KQ3.cell k
        have qf := KQ3.fr k
        rw [List.getElem?_toArray, zs_at (by rw [HQ.out.1]; exact hlt)] at q2
        simp at z2
        clear hb hb3 KS3 KQ3 g0 g1 g2 g3 g4
        rcases (show y = true ∨ y = false by cases y <;> simp) with rfl | rfl
        all_goals
          go_wp2
          go_roundw
          case rel =>
            refine ⟨k + 1, _, M.set k _, rfl, by omega, by go_num, by rw [List.length_set]; exact HQ.out.1, ?_, bk_set (HQ.out.2.2.1.bel HB3.out) k _, (HQ.out.2.2.2.1.bel HB3.out).far (by simp) _, (HQ.out.2.2.2.2.1.bel HB3.out).far (by simp; have := HSZ.out; omega) _, (HQ.out.2.2.2.2.2.1.bel HB3.out).far (by simp; have := HSZ.out; omega) _, (HQ.out.2.2.2.2.2.2.tr HB3.out).st (by simp; have := HSZ.out; omega) _⟩
            intro i hi
            rw [set_at]
            by_cases h9 : i = k
            · subst h9
              rw [if_pos ⟨rfl, by rw [HQ.out.1]; exact hlt⟩, HVE.out]
              simp
            · rw [if_neg (by omega)]
              exact HQ.out.2.1 i (by omega)
          case measure => simp [intOf]; omega
      · obtain rfl : k = N := by omega
        have hMV : M = vals l f s r q k := lists_eq (by rw [hM, vals_len]) (fun i hi => hval i (by omega))
        subst hMV
        have y0 := ks.cell 0
        have y1 := ks.cell 1
        have y2 := ks.cell 2
        have n0 := kn.cell 0
        have n1 := kn.cell 1
        have n2 := kn.cell 2
        have m0 := kn.fr 0
        have m1 := kn.fr 1
        have m2 := kn.fr 2
        simp at y0 y1 y2 n0 n1 n2
        clear hval kq ks kg kn hb hM
        go_wp2
        refine bodyPost_ret (v := .tuple #[.agg #[.int .i64 f, .int .i64 s, .slice (some ⟨w2.heap.size, 0, none⟩) k k], .int .i64 0]) (results_s Tryz.results35 _ _ (w.heap.size + 1) (.int .i64 f) (.int .i64 s) (.slice (some ⟨w2.heap.size, 0, none⟩) k k) rfl (((HQ.out.2.2.2.2.2.1.st 0 _).st 1 _).st 2 _)) rfl ?_
        exact ⟨_, rfl, by have := HSZ.out; omega, ((HQ.out.2.2.1.far (by simp; have := HSZ.out; omega) _).far (by simp; have := HSZ.out; omega) _).far (by simp; have := HSZ.out; omega) _, ((HQ.out.2.2.2.2.2.2.st (by simp) _).st (by simp) _).st (by simp) _⟩
  · generalize hW : ((w2.alloc (.cells #[.int .i64 f, .int .i64 s, .slice (some ⟨w2.heap.size + 1, 0, none⟩) N N] 68)).alloc (.cells (zs (List.replicate N 0)).toArray 3)).drew = W
    have HSZ : Hid (w.heap.size ≤ w2.heap.size ∧ w.heap.size + 1 < w2.heap.size) := ⟨HB2.out.size, kz⟩
    have KQ : Bk W (w2.heap.size + 1) 3 (zs (List.replicate N 0)).toArray := by rw [← hW]; exact Bk.nq _ _ _ (by simp) |>.drw
    have KS : Bk W (w2.heap.size) 68 #[.int .i64 f, .int .i64 s, .slice (some ⟨w2.heap.size + 1, 0, none⟩) N N] := by rw [← hW]; exact Bk.nw w2 _ _ |>.al _ |>.drw
    have HBW : Hid (Bel w2 W) := by show Bel _ _; rw [← hW]; exact ((Bel.rf.al _).al _).drw
    have HR0 : Hid (∃ (k : Nat) (V : World) (M : List Int), V = W ∧ k ≤ N ∧ Value.int IntKind.i64 0 = .int .i64 (k : Int) ∧ M.length = N ∧ (∀ i, i < k → M.getD i 0 = (vals l f s r q N).getD i 0) ∧ Bk W (w2.heap.size + 1) 3 (zs M).toArray ∧ Bk W (w2.heap.size) 68 #[.int .i64 f, .int .i64 s, .slice (some ⟨w2.heap.size + 1, 0, none⟩) N N] ∧ Bk W w.heap.size 72 #[.int .i64 f, .int .i64 s, .int .i64 (N : Int), .int .i64 r, .int .i64 q] ∧ Bk W (w.heap.size + 1) 68 #[.int .i64 0, .int .i64 0, .slice none 0 0] ∧ Bel w W) := ⟨0, _, _, rfl, by omega, rfl, by simp, fun i hi => by omega, KQ, KS, HKB2.out.bel HBW.out, HKR2.out.bel HBW.out, HB2.out.tr HBW.out⟩
    have y2 := KS.cell 2
    simp at y2
    clear hW KQ KS k0 k1 k2 k0a k0b k1a k1b k2a k2b kz hmk
    go_wp2
    go_loopw [32] (fun s32 wr => ∃ (k : Nat) (V : World) (M : List Int), V = wr ∧ k ≤ N ∧ s32 = .int .i64 (k : Int) ∧ M.length = N ∧ (∀ i, i < k → M.getD i 0 = (vals l f s r q N).getD i 0) ∧ Bk wr (w2.heap.size + 1) 3 (zs M).toArray ∧ Bk wr (w2.heap.size) 68 #[.int .i64 f, .int .i64 s, .slice (some ⟨w2.heap.size + 1, 0, none⟩) N N] ∧ Bk wr w.heap.size 72 #[.int .i64 f, .int .i64 s, .int .i64 (N : Int), .int .i64 r, .int .i64 q] ∧ Bk wr (w.heap.size + 1) 68 #[.int .i64 0, .int .i64 0, .slice none 0 0] ∧ Bel w wr) (fun s32 _ => N - (intOf s32).toNat)
    case atStart => exact HR0.out
    case round =>
      clear HR0 y2
      obtain ⟨k, wr, M, hwr, hk, rfl, hM, hval, kq, ks, kg, kn, hb⟩ := hrel
      subst hwr
      have HQ := Lib.hid (And.intro hM (And.intro hval (And.intro kq (And.intro ks (And.intro kg (And.intro kn hb))))))
      rcases Nat.lt_or_ge k N with hlt | hge
      · have g0 := kg.cell 0
        have g1 := kg.cell 1
        have g2 := kg.cell 2
        have g3 := kg.cell 3
        have g4 := kg.cell 4
        simp at g0 g1 g2 g3 g4
        have ht := HTM.out k hlt
        obtain ⟨T, hT⟩ : ∃ T, f + (k : Int) * s = T := ⟨_, rfl⟩
        obtain ⟨P, hP⟩ : ∃ P, (k : Int) * s = P := ⟨_, rfl⟩
        rw [hP] at hT
        rw [hP] at ht
        obtain ⟨p0, p1⟩ := ht
        have wP : wrap64 P = P := IntWalk.wrap64_in _ (by omega)
        have HV2 : Hid (∀ W, Bel w W → _) := fun W hW => HVL.out (f + P) W (by omega) (by omega) hW
        have hv : (vals l f s r q N).getD k 0 = vz (val l r q (f + P)) := by rw [vals_at _ _ _ _ _ _ _ hlt, hP]
        obtain ⟨x, hx⟩ : ∃ x, (val l r q (f + P)).1 = x := ⟨_, rfl⟩
        obtain ⟨y, hy⟩ : ∃ x, (val l r q (f + P)).2 = x := ⟨_, rfl⟩
        unfold vz at hv
        rw [hx, hy] at HV2
        rw [hx, hy] at hv
        have HVE := Lib.hid hv
        have ki : (k : Int) < (N : Int) := by omega
        clear hM hval kq ks kg kn hv hx hy hT
        go_wp2_with fail
        go_at_call 62
        refine (HV2.out _ (by first | exact hb | exact hb.drwN _ | exact hb.drw)).mono ?_
        rintro e w3 ⟨rfl, hb3⟩
        have HB3 : Hid (Bel wr w3) := by first | exact hb3 | exact (Bel.rf.drwN _).tr hb3 | exact Bel.rf.drw.tr hb3
        have KS3 := HQ.out.2.2.2.1.bel HB3.out
        have KQ3 := HQ.out.2.2.1.bel HB3.out
        have z2 := KS3.cell 2
        have q2 := KQ3.cell k
        have qf := KQ3.fr k
        rw [List.getElem?_toArray, zs_at (by rw [HQ.out.1]; exact hlt)] at q2
        simp at z2
        clear hb hb3 KS3 KQ3 g0 g1 g2 g3 g4
        rcases (show y = true ∨ y = false by cases y <;> simp) with rfl | rfl
        all_goals
          go_wp2
          go_roundw
          case rel =>
            refine ⟨k + 1, _, M.set k _, rfl, by omega, by go_num, by rw [List.length_set]; exact HQ.out.1, ?_, bk_set (HQ.out.2.2.1.bel HB3.out) k _, (HQ.out.2.2.2.1.bel HB3.out).far (by simp) _, (HQ.out.2.2.2.2.1.bel HB3.out).far (by simp; have := HSZ.out; omega) _, (HQ.out.2.2.2.2.2.1.bel HB3.out).far (by simp; have := HSZ.out; omega) _, (HQ.out.2.2.2.2.2.2.tr HB3.out).st (by simp; have := HSZ.out; omega) _⟩
            intro i hi
            rw [set_at]
            by_cases h9 : i = k
            · subst h9
              rw [if_pos ⟨rfl, by rw [HQ.out.1]; exact hlt⟩, HVE.out]
              simp
            · rw [if_neg (by omega)]
              exact HQ.out.2.1 i (by omega)
          case measure => simp [intOf]; omega
      · obtain rfl : k = N := by omega
        have hMV : M = vals l f s r q k := lists_eq (by rw [hM, vals_len]) (fun i hi => hval i (by omega))
        subst hMV
        have y0 := ks.cell 0
        have y1 := ks.cell 1
        have y2 := ks.cell 2
        have n0 := kn.cell 0
        have n1 := kn.cell 1
        have n2 := kn.cell 2
        have m0 := kn.fr 0
        have m1 := kn.fr 1
        have m2 := kn.fr 2
        simp at y0 y1 y2 n0 n1 n2
        clear hval kq ks kg kn hb hM
        go_wp2
        refine bodyPost_ret (v := .tuple #[.agg #[.int .i64 f, .int .i64 s, .slice (some ⟨w2.heap.size + 1, 0, none⟩) k k], .int .i64 0]) (results_s Tryz.results35 _ _ (w.heap.size + 1) (.int .i64 f) (.int .i64 s) (.slice (some ⟨w2.heap.size + 1, 0, none⟩) k k) rfl (((HQ.out.2.2.2.2.2.1.st 0 _).st 1 _).st 2 _)) rfl ?_
        exact ⟨_, rfl, by have := HSZ.out; omega, ((HQ.out.2.2.1.far (by simp; have := HSZ.out; omega) _).far (by simp; have := HSZ.out; omega) _).far (by simp; have := HSZ.out; omega) _, ((HQ.out.2.2.2.2.2.2.st (by simp) _).st (by simp) _).st (by simp) _⟩
end Go.Proofs.YtpbnabibnkohdaaGreatDoor.Rg
namespace Go.Proofs.YtpbnabibnkohdaaGreatDoor.Wi
open Go.ChangeShapes Go.WideShapes Go.RowKit Wo Sr
set_option linter.unusedVariables false
theorem bel_grown {w a b : World} {row : Option Nat} (h : Bel w a) (hg : a.grownBy b row) (hr : ∀ q, row = some q → w.heap.size ≤ q) : Bel w b := Below.grown h hg h.size hr
theorem own_base {w : World} {base size n : Nat} {e : TypeId} {v : Value} {xs : List Value} (h : w.ownsRow base e size v n xs) : ∀ q, v.ownBlock = some q → base ≤ q := fun q e => (h.lt q e).1
theorem zs_one (M : List Int) : ∀ u ∈ zs M, u.oneCell' = true := by
  intro u hu
  obtain ⟨x, _, rfl⟩ := List.mem_map.1 hu
  rfl
theorem zi_news {w : World} {ad : Addr} {m : Nat} {M : List Int} (hz : Zi w (some ad) m M) : ∀ j u, (zs M)[j]? = some u → w.cell? (ad.add j) = some u := by
  intro j u hu
  have hj : j < M.length := by
    rcases Nat.lt_or_ge j M.length with h | h
    · exact h
    · rw [List.getElem?_eq_none (by rw [zs_len]; exact h)] at hu; cases hu
  obtain ⟨ad', e, _, hcc⟩ := hz.2 (by have := hz.1; omega)
  cases e
  rw [zs_at hj] at hu
  cases hu
  exact hcc j (by have := hz.1; omega)
theorem run_app (w : World) (ty : TypeId) (base : Nat) (v : Value) (n : Nat) (L : List Int) (hown : w.ownsRow base 3 1 v n (zs L)) (ad : Addr) (m c : Nat) (M : List Int) (hz : Zi w (some ad) m M) (hn : n + m ≤ 1000000) (hbase : base ≤ w.heap.size) :
    ∃ v' w', (Builtin.append_ #[22, 22] ty #[v, .slice (some ad) m c]).run Tryz.prog w = .ok v' w' ∧ w'.ownsRow base 3 1 v' (n + m) (zs (L ++ M)) ∧ w.grownBy w' v.ownBlock ∧ (v'.ownBlock = v.ownBlock ∨ v'.ownBlock = some w.heap.size) := by
  obtain ⟨i0, hi0, hz0, hz1, hz2⟩ := info_parts info_int
  obtain ⟨v', w', hr, h2, h3, _, h5⟩ := run_append_own_at (P := Tryz.prog) w base 22 ty 3 i0 (.int .i64 0) 1 8 Tryz.underlying22 hi0 hz0 hz1 hz2 (by rfl) (by omega) v n (zs L) hown ad m c (zs M) (by rw [zs_len, hz.1]; omega) (zi_news hz) (zs_one M) (by unfold maxLen; omega) (by omega) hbase
  exact ⟨v', w', hr, by rw [zs_app]; exact h2, h3, h5⟩
theorem wp_app (w : World) {o : Oper} {a : Act} {K : Act → World → Prop} {Q : Exit → Act → World → Prop} (s x : Operand)
    (ho : o.op = .call { callee := .builtin .append, args := #[s, x], argTypes := #[22, 22] })
    (base : Nat) (v : Value) (n : Nat) (L : List Int) (hs : a.eval s = v) (hown : w.ownsRow base 3 1 v n (zs L)) (ad : Addr) (m c : Nat) (M : List Int) (hx : a.eval x = .slice (some ad) m c) (hz : Zi w (some ad) m M) (hn : n + m ≤ 1000000) (hbase : base ≤ w.heap.size)
    (h : ∀ v' w', w'.ownsRow base 3 1 v' (n + m) (zs (L ++ M)) → w.grownBy w' v.ownBlock → (v'.ownBlock = v.ownBlock ∨ v'.ownBlock = some w.heap.size) → K (a.put o.dst v') w') : o.wp Tryz.prog a w K Q := by
  obtain ⟨v', w', hr, h2, h3, h5⟩ := run_app w o.type base v n L hown ad m c M hz hn hbase
  unfold Oper.wp execOp
  simp only [ho, resolve, invoke, builtin, Sem.run_bind, Sem.run_pure, Result.andThen_ok, List.map_toArray, List.map_cons, List.map_nil, hs, hx, hr]
  exact h v' w' h2 h3 h5
theorem step_app (w : World) {ops : Array Oper} {o : Oper} {a : Act} {K : Act → World → Prop} {Q : Exit → Act → World → Prop} {E : Prop} (hgd : o.guard = none) (s x : Operand)
    (ho : o.op = .call { callee := .builtin .append, args := #[s, x], argTypes := #[22, 22] })
    (base : Nat) (v : Value) (n : Nat) (L : List Int) (hs : a.eval s = v) (hown : w.ownsRow base 3 1 v n (zs L)) (ad : Addr) (m c : Nat) (M : List Int) (hx : a.eval x = .slice (some ad) m c) (hz : Zi w (some ad) m M) (hn : n + m ≤ 1000000) (hbase : base ≤ w.heap.size)
    (h : ∀ v' w', w'.ownsRow base 3 1 v' (n + m) (zs (L ++ M)) → w.grownBy w' v.ownBlock → (v'.ownBlock = v.ownBlock ∨ v'.ownBlock = some w.heap.size) → K (a.put o.dst v') w') :
    if Region.wanted o (yielded ops a.tmps) = true then Oper.wp Tryz.prog o a w K Q else E := by
  have hw : Region.wanted o (yielded ops a.tmps) = true := by simp [Region.wanted, hgd]
  rw [if_pos hw]
  exact wp_app w s x ho base v n L hs hown ad m c M hx hz hn hbase h
theorem list_app (w : World) {ops : Array Oper} {rest : List Oper} {o : Oper} {a : Act} {Q : Exit → Act → World → Prop} (hgd : o.guard = none) (s x : Operand)
    (ho : o.op = .call { callee := .builtin .append, args := #[s, x], argTypes := #[22, 22] })
    (base : Nat) (v : Value) (n : Nat) (L : List Int) (hs : a.eval s = v) (hown : w.ownsRow base 3 1 v n (zs L)) (ad : Addr) (m c : Nat) (M : List Int) (hx : a.eval x = .slice (some ad) m c) (hz : Zi w (some ad) m M) (hn : n + m ≤ 1000000) (hbase : base ≤ w.heap.size)
    (h : ∀ v' w', w'.ownsRow base 3 1 v' (n + m) (zs (L ++ M)) → w.grownBy w' v.ownBlock → (v'.ownBlock = v.ownBlock ∨ v'.ownBlock = some w.heap.size) → wpList Tryz.prog ops Q rest (a.put o.dst v') w') : wpList Tryz.prog ops Q (o :: rest) a w :=
  wpList_plain hgd fun _ hK => wp_app w s x ho base v n L hs hown ad m c M hx hz hn hbase fun v' w' h2 h3 h5 => hK _ _ (h v' w' h2 h3 h5)
theorem own_made {base : Nat} (W : World) (q : Nat) (hq : W.heap.size = q) (hb : base ≤ q) : (W.alloc (.cells #[] 3)).ownsRow base 3 1 (.slice (some ⟨q, 0, none⟩) 0 0) 0 (zs []) := by
  subst hq
  exact World.ownsRow_made (base := base) (e := 3) (size := 1) W #[] 0 hb (by unfold maxLen; omega) rfl
theorem zi_none {W : World} {A : Option Addr} : Zi W A 0 [] := ⟨rfl, fun h => by omega⟩
theorem zi_part {w : World} {h N : Nat} {Z : List Int} (hz : Zi w (some ⟨h, 0, none⟩) N Z) (i n : Nat) (hi : i + n ≤ N) : Zi w (some ⟨h, i, none⟩) n ((Z.drop i).take n) := by
  have hl := hz.1
  refine ⟨by simp; omega, fun hn => ?_⟩
  obtain ⟨ad, e, hx, _⟩ := hz.2 (by omega)
  cases e
  refine ⟨_, rfl, hx, fun j hj => ?_⟩
  have := hz.at (i + j) (by omega)
  rw [show (⟨h, i, none⟩ : Addr).add j = ⟨h, i + j, none⟩ by unfold Addr.add; split <;> simp_all, this]
  simp [List.getD_eq_getElem?_getD, hj]
end Go.Proofs.YtpbnabibnkohdaaGreatDoor.Wi
namespace Go.Proofs.YtpbnabibnkohdaaGreatDoor.Se
set_option linter.unusedVariables false
/-- what the iterator of runs yields from the place i on, with c values in a row behind it -/
def rns : List Int → Nat → Nat → List (Nat × Nat)
  | [], i, c => if 0 < c then [(i - c, c)] else []
  | v :: vs, i, c => if v = 1073741824 then (if 0 < c then (i - c, c) :: rns vs (i + 1) 0 else rns vs (i + 1) 0) else rns vs (i + 1) (c + 1)
def pres (V : List Int) (i : Nat) : Bool := decide (V.getD i 1073741824 ≠ 1073741824)
/-- a window of m values begins at i -/
def good (V : List Int) (m i : Nat) : Bool := decide (i + m ≤ V.length ∧ ∀ j, j < m → V.getD (i + j) 1073741824 ≠ 1073741824)
/-- the starts that a run gives -/
def ofRun (m : Nat) (r : Nat × Nat) : List Nat := (List.range (r.2 + 1 - m)).map (r.1 + ·)
def sts (V : List Int) (m : Nat) : List Nat := (rns V 0 0).flatMap (ofRun m)
theorem good_iff {V : List Int} {m i : Nat} : good V m i = true ↔ (i + m ≤ V.length ∧ ∀ j, j < m → V.getD (i + j) 1073741824 ≠ 1073741824) := by
  unfold good; exact decide_eq_true_iff
theorem filt {p : Nat → Bool} (a c m : Nat) (hm : 1 ≤ m) (h : ∀ s, a ≤ s → s ≤ a + c → (p s = true ↔ s + m ≤ a + c)) : (List.range' a (c + 1)).filter p = ofRun m (a, c) := by
  unfold ofRun
  have e : c + 1 = (c + 1 - m) + (c + 1 - (c + 1 - m)) := by omega
  rw [e, ← List.range'_append_1, List.filter_append]
  have h1 : (List.range' a (c + 1 - m)).filter p = List.range' a (c + 1 - m) := by
    apply List.filter_eq_self.2
    intro x hx
    rw [List.mem_range'_1] at hx
    exact (h x (by omega) (by omega)).2 (by omega)
  have h2 : (List.range' (a + (c + 1 - m)) (c + 1 - (c + 1 - m))).filter p = [] := by
    apply List.filter_eq_nil_iff.2
    intro x hx hp
    rw [List.mem_range'_1] at hx
    have := (h x (by omega) (by omega)).1 hp
    omega
  rw [h1, h2, List.append_nil]
  have e2 : (c + 1 - m) + (c + 1 - (c + 1 - m)) - m = c + 1 - m := by omega
  show _ = List.map (a + ·) (List.range (c + 1 - m + (c + 1 - (c + 1 - m)) - m))
  rw [e2, List.range'_eq_map_range]
theorem getD_out (V : List Int) (i : Nat) (h : V.length ≤ i) : V.getD i 1073741824 = 1073741824 := by
  rw [List.getD_eq_getElem?_getD, List.getElem?_eq_none h]; rfl
theorem sts_from (W : List Int) (m : Nat) (hm : 1 ≤ m) : ∀ (vs : List Int) (i c : Nat), W.drop i = vs → W.length = i + vs.length → c ≤ i → (∀ q, i - c ≤ q → q < i → W.getD q 1073741824 ≠ 1073741824) → (rns vs i c).flatMap (ofRun m) = (List.range' (i - c) (W.length + 1 - (i - c))).filter (good W m)
  | [], i, c, hd, hl, hc, hp => by
    have hl : W.length = i := by simpa using hl
    have e : W.length + 1 - (i - c) = c + 1 := by omega
    rw [e, filt (i - c) c m hm]
    · unfold rns
      split
      · simp
      · have : c = 0 := by omega
        subst this
        simp [ofRun]
        omega
    · intro s h1 h2
      rw [good_iff]
      constructor
      · intro h; omega
      · intro h; exact ⟨by omega, fun j hj => hp _ (by omega) (by omega)⟩
  | v :: vs, i, c, hd, hl, hc, hp => by
    have hl : W.length = i + 1 + vs.length := by simp at hl; omega
    have hil : i < W.length := by omega
    have hv : W.getD i 1073741824 = v := by
      rw [List.getD_eq_getElem?_getD, List.getElem?_eq_getElem hil]
      rw [List.drop_eq_getElem_cons hil] at hd
      injection hd
    have hd2 : W.drop (i + 1) = vs := by
      rw [List.drop_eq_getElem_cons hil] at hd
      injection hd
    unfold rns
    by_cases hvm : v = 1073741824
    · rw [if_pos hvm]
      have ih := sts_from W m hm vs (i + 1) 0 hd2 hl (by omega) (fun q h1 h2 => by omega)
      have e : W.length + 1 - (i - c) = (c + 1) + (W.length + 1 - (i + 1)) := by omega
      have e1 : i - c + (c + 1) = i + 1 := by omega
      have hf : (List.range' (i - c) (c + 1)).filter (good W m) = ofRun m (i - c, c) := by
        apply filt (i - c) c m hm
        intro s h1 h2
        rw [good_iff]
        constructor
        · intro h
          rcases Nat.lt_or_ge (i - c + c) (s + m) with h3 | h3
          · exfalso
            have := h.2 (i - s) (by omega)
            rw [show s + (i - s) = i by omega, hv] at this
            exact this hvm
          · omega
        · intro h; exact ⟨by omega, fun j hj => hp _ (by omega) (by omega)⟩
      rw [e, ← List.range'_append_1, List.filter_append, hf, e1]
      rw [Nat.sub_zero] at ih
      rw [← ih]
      split
      · simp
      · have : c = 0 := by omega
        subst this
        have : ofRun m (i - 0, 0) = [] := by simp [ofRun]; omega
        rw [this]; rfl
    · rw [if_neg hvm]
      have ih := sts_from W m hm vs (i + 1) (c + 1) hd2 hl (by omega) (fun q h1 h2 => by
        rcases Nat.lt_or_ge q i with h3 | h3
        · exact hp q (by omega) h3
        · rw [show q = i by omega, hv]; exact hvm)
      rw [show i + 1 - (c + 1) = i - c by omega] at ih
      exact ih
theorem sts_eq (V : List Int) (m : Nat) (hm : 1 ≤ m) : sts V m = (List.range (V.length + 1)).filter (good V m) := by
  have := sts_from V m hm V 0 0 rfl (by omega) (by omega) (fun q h1 h2 => by omega)
  rw [List.range_eq_range']
  exact this
theorem sts_mem {V : List Int} {m i : Nat} (hm : 1 ≤ m) : i ∈ sts V m ↔ good V m i = true := by
  rw [sts_eq V m hm, List.mem_filter, List.mem_range]
  constructor
  · intro h; exact h.2
  · intro h; exact ⟨by have := (good_iff.1 h).1; omega, h⟩
theorem sts_asc (V : List Int) (m : Nat) (hm : 1 ≤ m) : (sts V m).Pairwise (· < ·) := by
  rw [sts_eq V m hm]
  exact List.pairwise_lt_range.filter _
theorem sts_lt {V : List Int} {m : Nat} (hm : 1 ≤ m) {i : Nat} (hi : i + 1 < (sts V m).length) : (sts V m).getD i 0 < (sts V m).getD (i + 1) 0 := by
  have h := List.pairwise_iff_getElem.1 (sts_asc V m hm) i (i + 1) (by omega) hi (by omega)
  simp only [List.getD_eq_getElem?_getD, List.getElem?_eq_getElem (show i < (sts V m).length by omega), List.getElem?_eq_getElem hi]
  exact h
theorem good_less {V : List Int} {m i : Nat} (h : good V (m + 1) i = true) : good V m i = true := by
  rw [good_iff] at h ⊢
  exact ⟨by omega, fun j hj => h.2 j (by omega)⟩
theorem filter_len {p q : Nat → Bool} (h : ∀ x, p x = true → q x = true) : ∀ l : List Nat, (l.filter p).length ≤ (l.filter q).length
  | [] => Nat.le_refl _
  | y :: l => by
    have ih := filter_len h l
    rw [List.filter_cons, List.filter_cons]
    cases hp : p y
    · rw [if_neg (by decide)]
      split
      · rw [List.length_cons]; omega
      · exact ih
    · rw [h y hp, if_pos rfl, if_pos rfl, List.length_cons, List.length_cons]; omega
theorem sts_len (V : List Int) (m : Nat) (hm : 1 ≤ m) : (sts V (m + 1)).length ≤ (sts V m).length := by
  rw [sts_eq V m hm, sts_eq V (m + 1) (by omega)]
  exact filter_len (fun x h => good_less h) _
theorem sts_small (V : List Int) (m : Nat) (hm : 1 ≤ m) : (sts V m).length ≤ V.length + 1 := by
  rw [sts_eq V m hm]
  have := List.length_filter_le (good V m) (List.range (V.length + 1))
  simpa using this
theorem sts_in {V : List Int} {m : Nat} (hm : 1 ≤ m) (x : Nat) (hx : x ∈ sts V m) : x + m ≤ V.length := by
  rw [sts_mem hm, good_iff] at hx
  exact hx.1
/-- how many values are there -/
def cnt (V : List Int) : Nat := V.countP (fun v => decide (v ≠ 1073741824))
theorem rns_sum : ∀ (vs : List Int) (i c : Nat), ((rns vs i c).map Prod.snd).sum = c + cnt vs
  | [], i, c => by
    unfold rns cnt
    split
    · simp
    · have : c = 0 := by omega
      subst this; simp
  | v :: vs, i, c => by
    unfold rns
    by_cases hv : v = 1073741824
    · rw [if_pos hv]
      have ih := rns_sum vs (i + 1) 0
      have e : cnt (v :: vs) = cnt vs := by simp [cnt, hv]
      rw [e]
      split
      · simp [ih]
      · have : c = 0 := by omega
        subst this; simp [ih]
    · rw [if_neg hv, rns_sum vs (i + 1) (c + 1)]
      have e : cnt (v :: vs) = cnt vs + 1 := by simp [cnt, hv]
      rw [e]; omega
theorem sts_one (V : List Int) : (sts V 1).length = cnt V := by
  have := rns_sum V 0 0
  unfold sts
  rw [List.length_flatMap]
  have e : (rns V 0 0).map (fun a => (ofRun 1 a).length) = (rns V 0 0).map Prod.snd := by
    apply List.map_congr_left
    intro a _
    simp [ofRun]
  rw [e, this]; omega
theorem cnt_app (A B : List Int) : cnt (A ++ B) = cnt A + cnt B := by simp [cnt]
theorem cnt_rep (k : Nat) : cnt (List.replicate k 1073741824) = 0 := by
  unfold cnt
  rw [List.countP_replicate]
  simp
/-- runs in order: each behind the end e of the one before it, with the values there -/
def Asc (W : List Int) : Int → List (Nat × Nat) → Prop
  | _, [] => True
  | e, r :: rs => e < (r.1 : Int) ∧ 1 ≤ r.2 ∧ r.1 + r.2 ≤ W.length ∧ (∀ j, j < r.2 → W.getD (r.1 + j) 1073741824 ≠ 1073741824) ∧ Asc W ((r.1 : Int) + r.2) rs
theorem asc_from (W : List Int) : ∀ (vs : List Int) (i c : Nat) (e : Int), W.drop i = vs → W.length = i + vs.length → c ≤ i → (∀ q, i - c ≤ q → q < i → W.getD q 1073741824 ≠ 1073741824) → e < ((i - c : Nat) : Int) → Asc W e (rns vs i c)
  | [], i, c, e, hd, hl, hc, hp, he => by
    have hl : W.length = i := by simpa using hl
    unfold rns
    split
    · exact ⟨he, by omega, by show i - c + c ≤ _; omega, fun j hj => hp _ (by show i - c ≤ i - c + j; omega) (by show i - c + j < i; have : j < c := hj; omega), trivial⟩
    · trivial
  | v :: vs, i, c, e, hd, hl, hc, hp, he => by
    have hl : W.length = i + 1 + vs.length := by simp at hl; omega
    have hil : i < W.length := by omega
    have hv : W.getD i 1073741824 = v := by
      rw [List.getD_eq_getElem?_getD, List.getElem?_eq_getElem hil]
      rw [List.drop_eq_getElem_cons hil] at hd
      injection hd
    have hd2 : W.drop (i + 1) = vs := by
      rw [List.drop_eq_getElem_cons hil] at hd
      injection hd
    unfold rns
    by_cases hvm : v = 1073741824
    · rw [if_pos hvm]
      split
      · exact ⟨he, by omega, by show i - c + c ≤ _; omega, fun j hj => hp _ (by show i - c ≤ i - c + j; omega) (by show i - c + j < i; have : j < c := hj; omega), asc_from W vs (i + 1) 0 _ hd2 hl (by omega) (fun q h1 h2 => by omega) (by show ((i - c : Nat) : Int) + (c : Int) < _; omega)⟩
      · exact asc_from W vs (i + 1) 0 e hd2 hl (by omega) (fun q h1 h2 => by omega) (by omega)
    · rw [if_neg hvm]
      exact asc_from W vs (i + 1) (c + 1) e hd2 hl (by omega) (fun q h1 h2 => by
        rcases Nat.lt_or_ge q i with h3 | h3
        · exact hp q (by omega) h3
        · rw [show q = i by omega, hv]; exact hvm) (by omega)
theorem asc_all (V : List Int) : Asc V (-1) (rns V 0 0) := asc_from V V 0 0 (-1) rfl (by omega) (by omega) (fun q h1 h2 => by omega) (by omega)
/-- a window of a cut is one of the series -/
theorem good_drop {V : List Int} {m i j : Nat} (hi : i ≤ V.length) : good (V.drop i) m j = good V m (i + j) := by
  unfold good
  congr 1
  apply propext
  have e : ∀ q, (V.drop i).getD q 1073741824 = V.getD (i + q) 1073741824 := fun q => by simp [List.getD_eq_getElem?_getD]
  rw [List.length_drop]
  constructor
  · rintro ⟨h1, h2⟩
    exact ⟨by omega, fun q hq => by have := h2 q hq; rwa [e, ← Nat.add_assoc] at this⟩
  · rintro ⟨h1, h2⟩
    exact ⟨by omega, fun q hq => by rw [e, ← Nat.add_assoc]; exact h2 q hq⟩
end Go.Proofs.YtpbnabibnkohdaaGreatDoor.Se
namespace Go.Proofs.YtpbnabibnkohdaaGreatDoor.Se
open Go.ChangeShapes Go.WideShapes Go.RowKit Wo Sr Wi
set_option linter.unusedVariables false
/-- values: samples, or missing -/
def Sv (L : List Int) : Prop := ∀ x ∈ L, (-1000 ≤ x ∧ x ≤ 1000) ∨ x = 1073741824
theorem Sv.take {L : List Int} (h : Sv L) (n : Nat) : Sv (L.take n) := fun x hx => h x (List.mem_of_mem_take hx)
theorem Sv.drop {L : List Int} (h : Sv L) (n : Nat) : Sv (L.drop n) := fun x hx => h x (List.mem_of_mem_drop hx)
theorem Sv.app {L M : List Int} (h : Sv L) (k : Sv M) : Sv (L ++ M) := fun x hx => (List.mem_append.1 hx).elim (h x) (k x)
theorem Sv.rep (n : Nat) : Sv (List.replicate n 1073741824) := fun x hx => .inr (List.eq_of_mem_replicate hx)
theorem Sv.at {L : List Int} (h : Sv L) {i : Nat} (hi : i < L.length) : (-1000 ≤ L.getD i 0 ∧ L.getD i 0 ≤ 1000) ∨ L.getD i 0 = 1073741824 := by
  rw [List.getD_eq_getElem?_getD, List.getElem?_eq_getElem hi]
  exact h _ (List.getElem_mem hi)
theorem sample_no (w : World) : Calls Tryz.prog 69 #[.int .i64 1073741824] w fun e w' => e = .returned (.bool false) ∧ w = w' := by
  go_enter Tryz.func69, Tryz.ntmps69
  go_wp2
  go_ret
  exact ⟨rfl, rfl⟩
set_option maxHeartbeats 4000000 in
theorem values_ok (A : Option Addr) (c n : Nat) (L : List Int) (hn : n ≤ 3000) (hs : Sv L) (w : World) (h : Zi w A n L) :
    Calls Tryz.prog 92 #[.slice A n c] w fun e w' => e = .returned (.bool true) ∧ Bel w w' := by
  have H1 := Lib.hid h
  have HS := Lib.hid hs
  have ni : (n : Int) ≤ 3000 := by omega
  clear h hs
  go_enter Tryz.func92, Tryz.ntmps92
  go_wp2
  go_loopw [7] (fun s7 wr => ∃ (k : Nat) (V : World), V = wr ∧ k ≤ n ∧ s7 = .int .i64 (k : Int) ∧ Bel w wr) (fun s7 _ => n - (intOf s7).toNat)
  case atStart => exact ⟨0, _, rfl, by omega, rfl, Bel.rf⟩
  case round =>
    obtain ⟨k, wr, hwr, hk, rfl, hb⟩ := hrel
    subst hwr
    have HB := Lib.hid hb
    rcases Nat.lt_or_ge k n with hlt | hge
    · obtain ⟨ad, rfl, hab, hac⟩ := (H1.out.bel hb).2 (by omega)
      have c1 := hac k hlt
      have hx := HS.out.at (i := k) (by have := H1.out.1; omega)
      obtain ⟨x, hxe⟩ : ∃ x, L.getD k 0 = x := ⟨_, rfl⟩
      rw [hxe] at c1 hx
      have ki : (k : Int) < (n : Int) := by omega
      clear hb hac hab hxe
      rcases hx with ⟨x0, x1⟩ | rfl
      · go_wp2_with (go_at_call 69; refine (sample_ok x x0 x1 _).mono ?_; rintro e w' ⟨rfl, rfl⟩)
        go_roundw
        case rel => exact ⟨k + 1, _, rfl, by omega, by go_num, by first | exact HB.out | exact HB.out.drwN _ | exact HB.out.drw⟩
        case measure => simp [intOf]; omega
      · go_wp2_with (go_at_call 69; refine (sample_no _).mono ?_; rintro e w' ⟨rfl, rfl⟩)
        go_roundw
        case rel => exact ⟨k + 1, _, rfl, by omega, by go_num, by first | exact HB.out | exact HB.out.drwN _ | exact HB.out.drw⟩
        case measure => simp [intOf]; omega
    · obtain rfl : k = n := by omega
      clear hb
      go_wp2
      go_ret
      exact ⟨rfl, HB.out⟩
/-- a series within these bounds -/
def Sb (st sp : Int) (n : Nat) : Prop := 0 ≤ st ∧ st ≤ 1000000 ∧ 1 ≤ sp ∧ sp ≤ 20 ∧ n ≤ 2000
theorem sb_mul {sp : Int} {n : Nat} (h0 : 1 ≤ sp) (h1 : sp ≤ 20) (hn : n ≤ 3000) : 0 ≤ sp * (n : Int) ∧ sp * (n : Int) ≤ 60000 := by
  have a := Int.mul_le_mul_of_nonneg_right h1 (show (0 : Int) ≤ (n : Int) by omega)
  exact ⟨Int.mul_nonneg (by omega) (by omega), by omega⟩
theorem end_ok (st sp : Int) (A : Option Addr) (n c : Nat) (h : Sb st sp n) (w : World) :
    Calls Tryz.prog 93 #[.agg #[.int .i64 st, .int .i64 sp, .slice A n c]] w fun e w' => e = .returned (.int .i64 (st + sp * (n : Int))) ∧ Bel w w' := by
  obtain ⟨a1, a2, a3, a4, a5⟩ := h
  obtain ⟨p, hp⟩ : ∃ p, sp * (n : Int) = p := ⟨_, rfl⟩
  obtain ⟨p0, p1⟩ := sb_mul a3 a4 (show n ≤ 3000 by omega)
  rw [hp] at p0 p1 ⊢
  have wp1 : IntKind.i64.wrap p = p := IntWalk.i64_in _ (by omega)
  have wp2 : IntKind.i64.wrap (st + p) = st + p := IntWalk.i64_in _ (by omega)
  go_enter Tryz.func93, Tryz.ntmps93
  go_wp2
  go_ret
  exact ⟨rfl, Bel.rf.al _⟩
set_option maxHeartbeats 4000000 in
theorem valid_ok (st sp : Int) (A : Option Addr) (n c : Nat) (L : List Int) (h : Sb st sp n) (hs : Sv L) (w : World) (hz : Zi w A n L) :
    Calls Tryz.prog 63 #[.agg #[.int .i64 st, .int .i64 sp, .slice A n c]] w fun e w' => e = .returned (.bool true) ∧ Bel w w' := by
  have EN : Hid (∀ W, _) := fun W => end_ok st sp A n c h W
  have VL : Hid (∀ W, Zi W A n L → _) := fun W hW => values_ok A c n L (by have := h.2.2.2.2; omega) hs W hW
  have HZ := Lib.hid hz
  obtain ⟨a1, a2, a3, a4, a5⟩ := h
  obtain ⟨p0, p1⟩ := sb_mul a3 a4 (show n ≤ 3000 by omega)
  obtain ⟨p, hp⟩ : ∃ p, st + sp * (n : Int) = p := ⟨_, rfl⟩
  have pb : p ≤ 2199023255552 := by omega
  rw [hp] at EN
  have ni : (n : Int) ≤ 2000 := by omega
  have HK := Lib.hid (Bk.nw w 68 #[.int .i64 st, .int .i64 sp, .slice A n c])
  clear hs hz hp p0 p1
  go_enter Tryz.func63, Tryz.ntmps63
  go_wp2_with fail
  go_at_call 92
  refine (VL.out _ (HZ.out.bel (Bel.rf.al _))).mono ?_
  rintro e w2 ⟨rfl, hb2⟩
  have B2 := HK.out.bel hb2
  have d0 := B2.cell 0
  have d1 := B2.cell 1
  have d2 := B2.cell 2
  have dl := B2.lt
  have HB2 := Lib.hid hb2
  clear B2 hb2
  go_wp2_with fail
  go_at_call 93
  refine (EN.out _).mono ?_
  rintro e w3 ⟨rfl, hb3⟩
  have HB3 := Lib.hid hb3
  clear hb3
  go_wp2
  go_ret
  exact ⟨rfl, (Bel.rf.al _).tr (HB2.out.tr HB3.out)⟩
theorem runs_ok (A : Option Addr) (n c : Nat) (w : World) :
    Calls Tryz.prog 95 #[.slice A n c] w fun e w' => e = .returned (.func (.func 120) #[] #[.pointer (some ⟨w.heap.size, 0, none⟩)]) ∧ w' = w.alloc (.cells #[.slice A n c] 22) := by
  go_enter Tryz.func95, Tryz.ntmps95
  go_wp2
  go_ret
  exact ⟨rfl, rfl⟩
end Go.Proofs.YtpbnabibnkohdaaGreatDoor.Se
namespace Go.Proofs.YtpbnabibnkohdaaGreatDoor.Se
open Go.ChangeShapes Go.WideShapes Go.RowKit Wo Sr Wi
set_option linter.unusedVariables false
/-- the values of a series, as they lie -/
def Vs (w : World) (A : Option Addr) (n c : Nat) (L : List Int) : Prop := Zi w A n L ∧ n ≤ c ∧ ((A = none ∧ c = 0) ∨ ∃ h, A = some ⟨h, 0, none⟩)
theorem Vs.bel {w w' : World} {A : Option Addr} {n c : Nat} {L : List Int} (h : Vs w A n c L) (hb : Bel w w') : Vs w' A n c L := ⟨h.1.bel hb, h.2⟩
theorem Vs.far {w : World} {A : Option Addr} {n c : Nat} {L : List Int} (h : Vs w A n c L) {q : Addr} (hn : ∀ ad, A = some ad → ad.block ≠ q.block) (u : Value) : Vs (w.setCell q u) A n c L :=
  ⟨⟨h.1.1, fun h0 => by
    obtain ⟨ad, e, hx, hc⟩ := h.1.2 h0
    exact ⟨ad, e, by simpa [World.setCell] using hx, fun j hj => (World.cell?_setCell_other _ _ _ _ (fun e2 => hn ad e (by rw [← add_block ad j, ← e2]))).trans (hc j hj)⟩⟩, h.2⟩
theorem own_vs {w : World} {base n : Nat} {v : Value} {L : List Int} (h : w.ownsRow base 3 1 v n (zs L)) (hl : L.length = n) : ∃ A c, v = .slice A n c ∧ Vs w A n c L ∧ ∀ ad, A = some ad → base ≤ ad.block := by
  obtain ⟨A, c, rfl, hz, hA⟩ := row_zi h hl
  refine ⟨A, c, rfl, ⟨hz, ?_⟩, fun ad e => by subst e; exact (h.lt ad.block rfl).1⟩
  rcases h.2 with ⟨e, h0⟩ | ⟨g, cap, cur, e, _, _, hc, _⟩
  · injection e with e1 e2 e3
    subst e1 e3
    exact ⟨by omega, .inl ⟨rfl, rfl⟩⟩
  · injection e with e1 e2 e3
    subst e1 e3
    exact ⟨hc, .inr ⟨g, rfl⟩⟩
def SomeVs (k : Nat) (Z : List Int) (w : World) (e : Ending) (w' : World) : Prop := ∃ A c, e = .returned (.slice A k c) ∧ Vs w' A k c Z ∧ (∀ ad, A = some ad → w.heap.size ≤ ad.block) ∧ Bel w w'
/-- a number that is looked for -/
def SomeIdx (b : Bool) (w : World) (e : Ending) (w' : World) : Prop := ∃ r : Int, e = .returned (.int .i64 r) ∧ -1 ≤ r ∧ r ≤ 3000 ∧ decide (0 ≤ r) = b ∧ Bel w w'
end Go.Proofs.YtpbnabibnkohdaaGreatDoor.Se
namespace Go.Proofs.YtpbnabibnkohdaaGreatDoor.Se
open Go.ChangeShapes Go.WideShapes Go.RowKit Wo Sr Wi
set_option linter.unusedVariables false
theorem results_s1 {fn : Func} {p : Tmp} (h : fn.results = #[.cell p 68]) (tmps : Array Value) (w : World) (g : Nat) (a b c : Value)
    (hp : tmps.getD p undef = .pointer (some ⟨g, 0, none⟩)) (hg : Bk w g 68 #[a, b, c]) :
    (results fn tmps).run Tryz.prog w = .ok (.agg #[a, b, c]) w := by
  have hp' : tmps[p]?.getD undef = .pointer (some ⟨g, 0, none⟩) := by simpa using hp
  have hl := run_loadVar_row (P := Tryz.prog) w g 68 68 #[a, b, c] (0, 0) _ hg Tryz.underlying68 rfl (by kernel_rfl)
  simp [results, h, hp', asAddr, hl]
theorem results_s2 {fn : Func} {p u : Tmp} (h : fn.results = #[.cell p 68, .tmp u]) (tmps : Array Value) (w : World) (g : Nat) (a b c : Value)
    (hp : tmps.getD p undef = .pointer (some ⟨g, 0, none⟩)) (hg : Bk w g 68 #[a, b, c]) :
    (results fn tmps).run Tryz.prog w = .ok (.tuple #[.agg #[a, b, c], tmps.getD u undef]) w := by
  have hp' : tmps[p]?.getD undef = .pointer (some ⟨g, 0, none⟩) := by simpa using hp
  have hl := run_loadVar_row (P := Tryz.prog) w g 68 68 #[a, b, c] (0, 0) _ hg Tryz.underlying68 rfl (by kernel_rfl)
  simp [results, h, hp', asAddr, hl]
/-- what a window is, and its error -/
def wz (L : List Int) (i m : Nat) : List Int := if good L m i then (L.drop i).take m else []
def we (L : List Int) (i m : Nat) : Int := if good L m i then 0 else if i + m ≤ L.length then 13 else 1
def SomeWin (L : List Int) (i m : Nat) (w : World) (e : Ending) (w' : World) : Prop := ∃ (A : Option Addr) (k c : Nat), e = .returned (.tuple #[.slice A k c, .int .i64 (we L i m)]) ∧ k = (wz L i m).length ∧ Zi w' A k (wz L i m) ∧ Bel w w'
theorem zi_cut {w : World} {h i k n : Nat} {L : List Int} (hz : Zi w (some ⟨h, 0, none⟩) n L) (hi : i + k ≤ n) : Zi w (some ⟨h, i, none⟩) k ((L.drop i).take k) := zi_part hz i k hi
theorem part_len {L : List Int} {i k : Nat} (h : i + k ≤ L.length) : ((L.drop i).take k).length = k := by simp; omega
end Go.Proofs.YtpbnabibnkohdaaGreatDoor.Se
namespace Go.Proofs.YtpbnabibnkohdaaGreatDoor.Se
open Go.RowKit Go.Shelf Wo Sr Wi
set_option linter.unusedVariables false
attribute [local go_sem] Oper.semAt_some
/-- a run within bounds -/
abbrev Rn := {r : Nat × Nat // r.1 + r.2 ≤ 3000}
def rv (l : List Rn) : List (Nat × Nat) := l.map Subtype.val
theorem rv_snoc (l : List Rn) (x : Rn) : rv (l ++ [x]) = rv l ++ [x.1] := by simp [rv]
/-- a run, as it is yielded -/
def encr (r : Rn) : Array Value := #[.agg #[.int .i64 (r.1.1 : Int), .int .i64 (r.1.2 : Int)]]
/-- the blocks below n₀ are as they were, but one -/
def Kq (n₀ Bo : Nat) (W W' : World) : Prop := ∀ b, b < n₀ → b ≠ Bo → W'.heap[b]? = W.heap[b]?
theorem Kq.cell {n₀ Bo : Nat} {W W' : World} (h : Kq n₀ Bo W W') {p : Addr} {v : Value} (hc : W.cell? p = some v) (h1 : p.block < n₀) (h2 : p.block ≠ Bo) : W'.cell? p = some v := (World.cell?_of_block (h _ h1 h2)).trans hc
theorem Kq.zi {n₀ Bo : Nat} {W W' : World} (h : Kq n₀ Bo W W') {A : Option Addr} {n : Nat} {L : List Int} (hz : Zi W A n L) (hb : 0 < n → ∀ ad, A = some ad → ad.block < n₀ ∧ ad.block ≠ Bo) (hs : n₀ ≤ W'.heap.size) : Zi W' A n L :=
  ⟨hz.1, fun hn => by
    obtain ⟨ad, e, hx, hc⟩ := hz.2 hn
    have hb2 := hb hn ad e
    exact ⟨ad, e, by omega, fun j hj => h.cell (hc j hj) (by rw [add_block]; exact hb2.1) (by rw [add_block]; exact hb2.2)⟩⟩
theorem drop_at {L : List Int} {k n : Nat} (hl : L.length = n) (hk : k < n) : L.drop k = L.getD k 0 :: L.drop (k + 1) := by
  rw [List.drop_eq_getElem_cons (by omega), List.getD_eq_getElem?_getD, List.getElem?_eq_getElem (by omega)]; rfl
theorem zi_lt {w : World} {A : Option Addr} {n : Nat} {L : List Int} (h : Zi w A n L) : ∀ ad, 0 < n → A = some ad → ad.block < w.heap.size := fun ad hn e => by
  obtain ⟨ad', e', hx, _⟩ := h.2 hn
  rw [e] at e'; cases e'; exact hx
set_option maxRecDepth 100000 in
set_option maxHeartbeats 2000000 in
theorem runs1_in (d : Nat) (hd : 1 ≤ d) (n₀ Bo l Bx : Nat) (A : Option Addr) (c n : Nat) (L : List Int) (hn : n ≤ 3000) (J Jx : List Rn → World → Prop) (W : World) (hJ : AbidesFrom W.heap.size J)
    (hY : ∀ pre x W, J pre W → pre.length < n + 1 → YieldAt Fence.wide (d - 1) Tryz.prog l (encr x) W fun e W' =>
      (e = .returned (.bool true) ∧ J (pre ++ [x]) W' ∧ (Kq n₀ Bo W W' ∧ n₀ ≤ W'.heap.size)) ∨ (e = .returned (.bool false) ∧ Jx (pre ++ [x]) W'))
    (hx1 : Bx < n₀) (hx2 : Bx ≠ Bo) (hbx : W.cell? ⟨Bx, 0, none⟩ = some (.slice A n c)) (hz : Zi W A n L) (hzb : 0 < n → ∀ ad, A = some ad → ad.block < n₀ ∧ ad.block ≠ Bo) (h0 : J [] W) :
    CallsIn Fence.wide d Tryz.prog 120 #[.func (.yield l) #[] #[], .pointer (some ⟨Bx, 0, none⟩)] W fun e W' => (∃ v, e = .returned v) ∧
      ((∃ ys : List Rn, rv ys = rns L 0 0 ∧ J ys W') ∨ (∃ pre : List Rn, True ∧ Jx pre W')) := by
  have ni : (n : Int) ≤ 3000 := by omega
  have HL := Lib.hid hz.1
  have HZB := Lib.hid hzb
  refine callsIn_of_wp Tryz.func120 rfl trivial ?_ rfl
  simp only [Tryz.ntmps120, List.size_toArray, List.length_cons, List.length_nil, Nat.reduceAdd, Nat.reduceSub, Array.replicate_succ, Array.replicate_zero, List.push_toArray, List.append_toArray, List.nil_append, List.cons_append]
  gi_wp2
  gi_loopw [3, 8] (fun s3 s8 wr => ∃ (k cc : Nat) (pre : List Rn), s3 = .int .i64 (cc : Int) ∧ s8 = .int .i64 (k : Int) ∧ k ≤ n ∧ cc ≤ k ∧ pre.length ≤ k ∧ rv pre ++ rns (L.drop k) k cc = rns L 0 0 ∧ J pre wr ∧ wr.cell? ⟨Bx, 0, none⟩ = some (.slice A n c) ∧ Zi wr A n L)
    (fun s3 s8 wr => n - (intOf s8).toNat)
  case atStart => exact ⟨0, 0, [], rfl, rfl, Nat.zero_le _, Nat.le_refl _, Nat.le_refl _, rfl, h0, hbx, hz⟩
  case round =>
    clear hbx hz h0
    obtain ⟨k, cc, pre, rfl, rfl, hk, hck, hpl, hpre, hJs, cb, hzr⟩ := hrel
    rcases Nat.lt_or_ge k n with hlt | hge
    · have hdr := drop_at HL.out hlt
      obtain ⟨ad, rfl, hab, hac⟩ := hzr.2 (by omega)
      have c1 := hac k hlt
      obtain ⟨x, hx⟩ : ∃ x, L.getD k 0 = x := ⟨_, rfl⟩
      rw [hx] at c1 hdr
      have HD := Lib.hid hdr
      have HP := Lib.hid (And.intro hpre (And.intro hJs (And.intro cb hzr)))
      have ki : (k : Int) < (n : Int) := by omega
      have cki : (cc : Int) ≤ (k : Int) := by omega
      clear hdr hx hac hab hpre hJs hzr
      by_cases hm : x = 1073741824
      · subst hm
        rcases Nat.eq_zero_or_pos cc with h0 | h0
        · subst h0
          gi_wp2
          refine ⟨(fun f h => by cases h), ?_⟩
          gi_wp2
          go_roundw
          case rel => exact ⟨k + 1, 0, pre, rfl, by go_num, by omega, by omega, by omega, by
            have := HP.out.1
            rw [HD.out] at this
            rw [← this]; rfl, HP.out.2.1, HP.out.2.2.1, HP.out.2.2.2⟩
          case measure => simp [intOf]; omega
        · have c0 : (cc : Int) > 0 := by omega
          obtain ⟨q, hq⟩ : ∃ q, k - cc = q := ⟨_, rfl⟩
          have hqi : (k : Int) - (cc : Int) = (q : Int) := by omega
          obtain ⟨fn, tmps, assign, body, hy, hR⟩ := hY pre ⟨(q, cc), by show q + cc ≤ 3000; omega⟩ wr HP.out.2.1 (by omega)
          unfold encr at hy
          clear hY hJ hzb hq
          obtain ⟨H, hH⟩ : ∃ H : Bool → World → Prop, H = fun bb W' => ((bb = true ∧ J (pre ++ [⟨(q, cc), by show q + cc ≤ 3000; omega⟩]) W' ∧ (Kq n₀ Bo wr W' ∧ n₀ ≤ W'.heap.size)) ∨ (bb = false ∧ Jx (pre ++ [⟨(q, cc), by show q + cc ≤ 3000; omega⟩]) W')) := ⟨_, rfl⟩
          have hR2 := hR.mono (R' := fun e W' => ∃ bb, e = .returned (.bool bb) ∧ H bb W') (fun e W' h3 => by rw [hH]; exact h3.elim (fun h => ⟨true, h.1, .inl ⟨rfl, h.2.1, h.2.2⟩⟩) (fun h => ⟨false, h.1, .inr ⟨rfl, h.2⟩⟩))
          have HH := Lib.hid hH
          clear hR hH
          gi_wp2_with (refine hR2.mono ?_; rintro e W3 ⟨bb, rfl, hbb⟩; rw [HH.out] at hbb; rcases hbb with ⟨rfl, hJ3, hk3, hk4⟩ | ⟨rfl, hJx3⟩)
          · go_roundw
            case rel => exact ⟨k + 1, 0, pre ++ [⟨(q, cc), by show q + cc ≤ 3000; omega⟩], rfl, by go_num, by omega, by omega, by rw [List.length_append]; simp; omega, by
              have := HP.out.1
              rw [HD.out] at this
              rw [← this, rv_snoc, List.append_assoc]; congr 1; show _ = rns (_ :: _) k cc; conv => rhs; unfold rns
              rw [if_pos rfl, if_pos h0]; show _ = (k - cc, cc) :: _; rw [show k - cc = q by omega]; rfl, hJ3, hk3.cell HP.out.2.2.1 hx1 hx2, hk3.zi HP.out.2.2.2 HZB.out hk4⟩
            case measure => simp [intOf]; omega
          · refine bodyPost_ret (results_none rfl _ _ _) rfl ?_
            exact ⟨⟨_, rfl⟩, .inr ⟨_, trivial, hJx3⟩⟩
      · have hmb : (x == 1073741824) = false := by simpa using hm
        gi_wp2
        go_roundw
        case rel => exact ⟨k + 1, cc + 1, pre, by go_num, by go_num, by omega, by omega, by omega, by
            have := HP.out.1
            rw [HD.out] at this
            rw [← this]; show _ = rv pre ++ rns (x :: _) k cc; conv => rhs; unfold rns
            rw [if_neg hm], HP.out.2.1, HP.out.2.2.1, HP.out.2.2.2⟩
        case measure => simp [intOf]; omega
    · obtain rfl : k = n := by omega
      have hrl : rns (L.drop k) k cc = if 0 < cc then [(k - cc, cc)] else [] := by rw [List.drop_of_length_le (by have := HL.out; omega)]; rfl
      rw [hrl] at hpre
      have cki : (cc : Int) ≤ (k : Int) := by omega
      clear hrl hzr hzb
      rcases Nat.eq_zero_or_pos cc with h0 | h0
      · subst h0
        have hpre2 : rv pre = rns L 0 0 := by rw [← hpre]; simp
        clear hpre
        have HP2 := Lib.hid (And.intro hpre2 hJs)
        clear hpre2 hJs
        gi_wp2
        go_end0
        exact ⟨⟨_, rfl⟩, .inl ⟨pre, HP2.out⟩⟩
      · have c0 : (cc : Int) > 0 := by omega
        rw [if_pos h0] at hpre
        obtain ⟨q, hq⟩ : ∃ q, k - cc = q := ⟨_, rfl⟩
        rw [hq] at hpre
        have hqi : (k : Int) - (cc : Int) = (q : Int) := by omega
        obtain ⟨fn, tmps, assign, body, hy, hR⟩ := hY pre ⟨(q, cc), by show q + cc ≤ 3000; omega⟩ wr hJs (by omega)
        unfold encr at hy
        have HP2 := Lib.hid hpre
        clear hY hJ hq hJs hpre
        obtain ⟨H, hH⟩ : ∃ H : Bool → World → Prop, H = fun bb W' => ((bb = true ∧ J (pre ++ [⟨(q, cc), by show q + cc ≤ 3000; omega⟩]) W' ∧ (Kq n₀ Bo wr W' ∧ n₀ ≤ W'.heap.size)) ∨ (bb = false ∧ Jx (pre ++ [⟨(q, cc), by show q + cc ≤ 3000; omega⟩]) W')) := ⟨_, rfl⟩
        have hR2 := hR.mono (R' := fun e W' => ∃ bb, e = .returned (.bool bb) ∧ H bb W') (fun e W' h3 => by rw [hH]; exact h3.elim (fun h => ⟨true, h.1, .inl ⟨rfl, h.2.1, h.2.2⟩⟩) (fun h => ⟨false, h.1, .inr ⟨rfl, h.2⟩⟩))
        have HH := Lib.hid hH
        clear hR hH
        gi_wp2_with (refine hR2.mono ?_; rintro e W3 ⟨bb, rfl, hbb⟩)
        go_end0
        rw [HH.out] at hbb
        refine ⟨⟨_, rfl⟩, ?_⟩
        rcases hbb with ⟨rfl, hJ3, hk3, hk4⟩ | ⟨rfl, hJx3⟩
        · exact .inl ⟨_, by rw [rv_snoc]; exact HP2.out, hJ3⟩
        · exact .inr ⟨_, trivial, hJx3⟩
end Go.Proofs.YtpbnabibnkohdaaGreatDoor.Se
