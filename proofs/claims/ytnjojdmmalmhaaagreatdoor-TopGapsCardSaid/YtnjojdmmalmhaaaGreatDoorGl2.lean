/- Merged: ResMath Rds UnitMath UnitConv RtM RtL UnitAwake RtC RtD RtP RtQ RtR RtI RtX. -/
import Derived.Test.YtnjojdmmalmhaaaGreatDoorRows
import Derived.Test.YtnjojdmmalmhaaaGreatDoorShelf
import Derived.Test.YtnjojdmmalmhaaaGreatDoorGl1
import Derived.IntWalk
import Derived.Deep.RegionLaw
import Derived.Maps.AppendAt
import Derived.BigQuiet
import Derived.Below
import Derived.WalkLawsBesides
import Derived.WalkSpells
import Derived.Outline
import Derived.Deep.QuietTactic
import Derived.RegionTactic
import Derived.Lib.LaidTab
import Derived.Lib.Split
import Derived.Lib.SplitLaws
import Derived.Lib.SlTrimSet
import Derived.Lib.Atoi
import Derived.MakeChecks
import Derived.Shelf.Strings.SplitCore
import Derived.Shelf.Strings.SlTrimAscii
import Derived.WalkKit
import Derived.Lib.Hide
import Derived.WalkMore
import Derived.Laws.ResultCell
import Derived.Deep.DeepCutAuto
import Derived.Deep.RegionHeld3
import Derived.Lib.IndexLaws
import Derived.Lib.IndexBytes
import Derived.MapKept
import Derived.Carry
import Derived.Tactics2
import Derived.Defers
import Derived.Recover
import Derived.Laws.Pointers
namespace Go.Proofs.YtnjojdmmalmhaaaGreatDoor.Rm
set_option linter.unusedVariables false
abbrev Rp := Int × Int
/-- time and value of the i-th reading -/
def tm (l : List Rp) (i : Nat) : Int := (l.getD i (0, 0)).1
def vl (l : List Rp) (i : Nat) : Int := (l.getD i (0, 0)).2
def far : Int := 1099511627777
/-- how many readings at the front have a time before t -/
def lb : List Rp → Int → Nat
  | [], _ => 0
  | p :: l, t => if p.1 < t then lb l t + 1 else 0
theorem lb_eq (l : List Rp) (t : Int) (i : Nat) (h1 : ∀ j, j < i → tm l j < t) (h2 : i ≤ l.length) (h3 : i < l.length → t ≤ tm l i) : lb l t = i := by
  induction l generalizing i with
  | nil => simp at h2; subst h2; rfl
  | cons p l ih =>
    unfold lb
    rcases i with _ | i
    · have := h3 (by simp)
      simp [tm] at this
      rw [if_neg (by omega)]
    · have h0 := h1 0 (by omega)
      simp [tm] at h0
      rw [if_pos h0, ih i (fun j hj => by have := h1 (j + 1) (by omega); simpa [tm] using this) (by simpa using h2) (fun hi => by have := h3 (by simpa using hi); simpa [tm] using this)]
theorem lb_le (l : List Rp) (t : Int) : lb l t ≤ l.length := by
  induction l with
  | nil => simp [lb]
  | cons p l ih => unfold lb; split <;> simp; exact ih
theorem lb_lt (l : List Rp) (t : Int) : ∀ j, j < lb l t → tm l j < t := by
  induction l with
  | nil => intro j hj; simp [lb] at hj
  | cons p l ih =>
    intro j hj
    unfold lb at hj
    split at hj
    · rename_i h
      rcases j with _ | j
      · simpa [tm] using h
      · have := ih j (by omega)
        simpa [tm] using this
    · omega
theorem lb_ge (l : List Rp) (t : Int) (h : lb l t < l.length) : t ≤ tm l (lb l t) := by
  induction l with
  | nil => simp at h
  | cons p l ih =>
    unfold lb at h ⊢
    split
    · rename_i h2
      rw [if_pos h2] at h
      have := ih (by simpa using h)
      simpa [tm] using this
    · rename_i h2
      simp [tm]
      omega
/-- readings of the reader's make: times ascend -/
def Asc (l : List Rp) : Prop := (∀ i, i < l.length → 0 ≤ tm l i ∧ tm l i ≤ 1099511627776 ∧ -1000 ≤ vl l i ∧ vl l i ≤ 1000) ∧ (∀ i, i + 1 < l.length → tm l i < tm l (i + 1))
theorem Asc.lt {l : List Rp} (h : Asc l) {i j : Nat} (hij : i < j) (hj : j < l.length) : tm l i < tm l j := by
  induction j with
  | zero => omega
  | succ j ih =>
    have := h.2 j hj
    rcases Nat.lt_or_ge i j with h2 | h2
    · have := ih h2 (by omega); omega
    · obtain rfl : i = j := by omega
      exact this
theorem Asc.ge {l : List Rp} (h : Asc l) (t : Int) {j : Nat} (hj : lb l t ≤ j) (hl : j < l.length) : t ≤ tm l j := by
  have := lb_ge l t (by omega)
  rcases Nat.lt_or_ge (lb l t) j with h2 | h2
  · have := h.lt h2 hl; omega
  · rw [show j = lb l t by omega]; exact this
def flr (a b : Int) : Int := a / b
/-- the nearest integer, halves up -/
def hup (a b : Int) : Int := (2 * a + b) / (2 * b)
def bck (l : List Rp) (t : Int) : Int := if 0 < lb l t then t - tm l (lb l t - 1) else far
def ahd (l : List Rp) (t : Int) : Int := if lb l t < l.length then tm l (lb l t) - t else far
def bv (l : List Rp) (t : Int) : Int := if 0 < lb l t then vl l (lb l t - 1) else 0
def av (l : List Rp) (t : Int) : Int := if lb l t < l.length then vl l (lb l t) else 0
/-- the value at a time -/
def val (l : List Rp) (rule reach t : Int) : Int × Bool :=
  if lb l t < l.length ∧ tm l (lb l t) = t then (vl l (lb l t), true)
  else if rule = 1 then (if bck l t ≤ reach then (bv l t, true) else (0, false))
  else if rule = 2 then (if bck l t ≤ ahd l t ∧ bck l t ≤ reach then (bv l t, true) else if ahd l t < bck l t ∧ ahd l t ≤ reach then (av l t, true) else (0, false))
  else if rule = 3 then (if bck l t ≤ reach ∧ ahd l t ≤ reach then (hup (bv l t * ahd l t + av l t * bck l t) (bck l t + ahd l t), true) else (0, false))
  else (0, false)
theorem bck_in {l : List Rp} (h : Asc l) {t : Int} (h0 : 0 ≤ t) (h1 : t ≤ 1099511627776) : 1 ≤ bck l t ∧ bck l t ≤ 1099511627777 := by
  unfold bck far
  have := lb_le l t
  split
  · rename_i h2
    have a := lb_lt l t (lb l t - 1) (by omega)
    have b := h.1 (lb l t - 1) (by omega)
    omega
  · omega
theorem ahd_in {l : List Rp} (h : Asc l) {t : Int} (h0 : 0 ≤ t) (h1 : t ≤ 1099511627776) : 0 ≤ ahd l t ∧ ahd l t ≤ 1099511627777 := by
  unfold ahd far
  split
  · rename_i h2
    have a := lb_ge l t h2
    have b := h.1 (lb l t) h2
    omega
  · omega
/-- a reading at this very time -/
theorem lb_at {l : List Rp} (h : Asc l) {i : Nat} (hi : i < l.length) : lb l (tm l i) = i :=
  lb_eq l _ i (fun j hj => h.lt hj hi) (by omega) (fun _ => Int.le_refl _)
theorem val_at {l : List Rp} (h : Asc l) {i : Nat} (hi : i < l.length) (rule reach : Int) : val l rule reach (tm l i) = (vl l i, true) := by
  unfold val
  rw [lb_at h hi, if_pos ⟨hi, rfl⟩]
/-- a greater reach changes no value that is there -/
theorem val_reach (l : List Rp) (rule r r' t : Int) (hr : r ≤ r') (h : (val l rule r t).2 = true) : val l rule r' t = val l rule r t := by
  unfold val at h ⊢
  split
  · rfl
  · rename_i h0
    rw [if_neg h0] at h
    split
    · rename_i h1
      rw [if_pos h1] at h
      split at h
      · rename_i h2
        rw [if_pos (by omega), if_pos h2]
      · cases h
    · rename_i h1
      rw [if_neg h1] at h
      split
      · rename_i h1
        rw [if_pos h1] at h
        split at h
        · rename_i h2
          rw [if_pos (by omega), if_pos h2]
        · rename_i h2
          split at h
          · rename_i h3
            rw [if_neg (by omega), if_pos (by omega), if_neg h2, if_pos h3]
          · cases h
      · rename_i h1
        rw [if_neg h1] at h
        split
        · rename_i h1
          rw [if_pos h1] at h
          split at h
          · rename_i h2
            rw [if_pos (by omega), if_pos h2]
          · cases h
        · rfl
/-- Hold: a reading at most so far back -/
theorem val_hold {l : List Rp} (h : Asc l) {t : Int} (h0 : 0 ≤ t) (h1 : t ≤ 1099511627776) {r : Int} (r0 : 0 ≤ r) (r1 : r ≤ 1000) : (val l 1 r t).2 = true ↔ ∃ i, i < l.length ∧ 0 ≤ t - tm l i ∧ t - tm l i ≤ r := by
  have hle := lb_le l t
  unfold val
  split
  · rename_i h2
    exact ⟨fun _ => ⟨lb l t, h2.1, by omega⟩, fun _ => rfl⟩
  · rename_i h2
    rw [if_pos rfl]
    constructor
    · intro h3
      split at h3
      · rename_i h4
        unfold bck far at h4
        split at h4
        · have := lb_lt l t (lb l t - 1) (by omega)
          exact ⟨lb l t - 1, by omega, by omega, h4⟩
        · omega
      · cases h3
    · rintro ⟨i, hi, a, b⟩
      have hil : i < lb l t := by
        rcases Nat.lt_or_ge i (lb l t) with h3 | h3
        · exact h3
        · have e := h.ge t h3 hi
          have := lb_at h hi
          rw [show tm l i = t by omega] at this
          exact absurd ⟨by omega, by rw [this]; omega⟩ h2
      have : bck l t ≤ r := by
        unfold bck
        rw [if_pos (by omega)]
        rcases Nat.lt_or_ge i (lb l t - 1) with h3 | h3
        · have := h.lt h3 (by omega); omega
        · rw [show lb l t - 1 = i by omega]; exact b
      rw [if_pos this]
/-- Nearest: some reading so near -/
theorem val_near {l : List Rp} (h : Asc l) {t : Int} (h0 : 0 ≤ t) (h1 : t ≤ 1099511627776) {r : Int} (r0 : 0 ≤ r) (r1 : r ≤ 1000) : (val l 2 r t).2 = true ↔ ∃ i, i < l.length ∧ t - tm l i ≤ r ∧ tm l i - t ≤ r := by
  have hle := lb_le l t
  unfold val
  split
  · rename_i h2
    exact ⟨fun _ => ⟨lb l t, h2.1, by omega, by omega⟩, fun _ => rfl⟩
  · rename_i h2
    rw [if_neg (by decide), if_pos rfl]
    have hb : bck l t ≤ r → ∃ i, i < l.length ∧ t - tm l i ≤ r ∧ tm l i - t ≤ r := fun h4 => by
      unfold bck far at h4
      split at h4
      · have := lb_lt l t (lb l t - 1) (by omega)
        exact ⟨lb l t - 1, by omega, by omega, by omega⟩
      · omega
    have ha : ahd l t ≤ r → ∃ i, i < l.length ∧ t - tm l i ≤ r ∧ tm l i - t ≤ r := fun h4 => by
      unfold ahd far at h4
      split at h4
      · rename_i h5
        have := lb_ge l t h5
        exact ⟨lb l t, h5, by omega, by omega⟩
      · omega
    constructor
    · intro h3
      split at h3
      · rename_i h4
        exact hb h4.2
      · split at h3
        · rename_i h4
          exact ha h4.2
        · cases h3
    · rintro ⟨i, hi, a, b⟩
      have hor : bck l t ≤ r ∨ ahd l t ≤ r := by
        rcases Nat.lt_or_ge i (lb l t) with h3 | h3
        · refine .inl ?_
          unfold bck
          rw [if_pos (by omega)]
          rcases Nat.lt_or_ge i (lb l t - 1) with h4 | h4
          · have := h.lt h4 (by omega); omega
          · rw [show lb l t - 1 = i by omega]; exact a
        · refine .inr ?_
          unfold ahd
          rw [if_pos (by omega)]
          rcases Nat.lt_or_ge (lb l t) i with h4 | h4
          · have := h.lt h4 hi; omega
          · rw [show lb l t = i by omega]; exact b
      split
      · rfl
      · rename_i h4
        rw [if_pos (by omega)]
/-- Linear only where Hold and Nearest have one -/
theorem val_lin {l : List Rp} {t r : Int} (h : (val l 3 r t).2 = true) : (val l 1 r t).2 = true ∧ (val l 2 r t).2 = true := by
  unfold val at h ⊢
  split
  · exact ⟨rfl, rfl⟩
  · rename_i h2
    rw [if_neg h2, if_neg (by decide), if_neg (by decide), if_pos rfl] at h
    split at h
    · rename_i h3
      refine ⟨by rw [if_pos rfl, if_pos h3.1], ?_⟩
      rw [if_neg (by decide), if_pos rfl]
      split
      · rfl
      · rw [if_pos (by omega)]
    · cases h
/-- all moved by a time -/
def mv (l : List Rp) (b : Int) : List Rp := l.map fun p => (p.1 + b, p.2)
theorem mv_len (l : List Rp) (b : Int) : (mv l b).length = l.length := by simp [mv]
theorem mv_tm (l : List Rp) (b : Int) (i : Nat) (h : i < l.length) : tm (mv l b) i = tm l i + b := by
  simp [tm, mv, List.getD_eq_getElem?_getD, h]
theorem mv_vl (l : List Rp) (b : Int) (i : Nat) : vl (mv l b) i = vl l i := by
  rcases Nat.lt_or_ge i l.length with h | h <;> simp [vl, mv, List.getD_eq_getElem?_getD, h]
theorem mv_lb (l : List Rp) (b t : Int) : lb (mv l b) (t + b) = lb l t := by
  induction l with
  | nil => rfl
  | cons p l ih =>
    have e : mv (p :: l) b = (p.1 + b, p.2) :: mv l b := rfl
    rw [e]
    unfold lb
    rw [ih]
    by_cases h : p.1 < t
    · rw [if_pos h, if_pos (show p.1 + b < t + b by omega)]
    · rw [if_neg h, if_neg (show ¬ p.1 + b < t + b by omega)]
theorem mv_val (l : List Rp) (b rule reach t : Int) : val (mv l b) rule reach (t + b) = val l rule reach t := by
  have hle := lb_le l t
  have e1 : bck (mv l b) (t + b) = bck l t := by
    unfold bck
    rw [mv_lb]
    split
    · rw [mv_tm _ _ _ (by omega)]; omega
    · rfl
  have e2 : ahd (mv l b) (t + b) = ahd l t := by
    unfold ahd
    rw [mv_lb, mv_len]
    split
    · rename_i h; rw [mv_tm _ _ _ h]; omega
    · rfl
  have e3 : bv (mv l b) (t + b) = bv l t := by
    unfold bv
    rw [mv_lb]
    split
    · rw [mv_vl]
    · rfl
  have e4 : av (mv l b) (t + b) = av l t := by
    unfold av
    rw [mv_lb, mv_len]
    split
    · rw [mv_vl]
    · rfl
  unfold val
  rw [e1, e2, e3, e4, mv_lb, mv_len, mv_vl]
  by_cases h : lb l t < l.length ∧ tm l (lb l t) = t
  · rw [if_pos h, if_pos ⟨h.1, by rw [mv_tm _ _ _ h.1]; omega⟩]
  · rw [if_neg h, if_neg (fun k => h ⟨k.1, by have := k.2; rw [mv_tm _ _ _ k.1] at this; omega⟩)]
/-- the line between two readings: in range, one direction, at most half a sample away -/
theorem hup_rest {a n : Int} (hn : 0 < n) : 2 * (a - hup a n * n) < n ∧ -n ≤ 2 * (a - hup a n * n) := by
  unfold hup
  have h1 := Int.emod_add_mul_ediv (2 * a + n) (2 * n)
  have h2 := Int.emod_nonneg (2 * a + n) (b := 2 * n) (by omega)
  have h3 := Int.emod_lt_of_pos (2 * a + n) (b := 2 * n) (by omega)
  generalize (2 * a + n) / (2 * n) = q at *
  have e : 2 * n * q = 2 * (q * n) := by grind
  rw [e] at h1
  omega
theorem hup_mono {a b n : Int} (hn : 0 < n) (h : a ≤ b) : hup a n ≤ hup b n := Int.ediv_le_ediv (by omega) (by omega)
theorem hup_mul (q : Int) {n : Int} (hn : 0 < n) : hup (q * n) n = q := by
  have h := hup_rest (a := q * n) hn
  generalize hup (q * n) n = u at *
  have e : q * n - u * n = (q - u) * n := by grind
  rw [e] at h
  rcases Int.lt_trichotomy (q - u) 0 with g | g | g
  · have := Int.mul_le_mul_of_nonneg_right (show q - u ≤ -1 by omega) (show 0 ≤ n by omega)
    omega
  · omega
  · have := Int.mul_le_mul_of_nonneg_right (show 1 ≤ q - u by omega) (show 0 ≤ n by omega)
    omega
/-- the numerator on the line -/
def nu (p q n k : Int) : Int := p * (n - k) + q * k
theorem nu_eq (p q n k : Int) : nu p q n k = p * n + (q - p) * k := by unfold nu; grind
theorem nu_up {p q n k : Int} (h : p ≤ q) (k0 : 0 ≤ k) (kn : k + 1 ≤ n) : p * n ≤ nu p q n k ∧ nu p q n k ≤ nu p q n (k + 1) ∧ nu p q n (k + 1) ≤ q * n := by
  rw [nu_eq, nu_eq]
  have h1 := Int.mul_nonneg (show 0 ≤ q - p by omega) k0
  have h2 := Int.mul_le_mul_of_nonneg_left kn (show 0 ≤ q - p by omega)
  have e : (q - p) * (k + 1) = (q - p) * k + (q - p) := by grind
  have e2 : (q - p) * n = q * n - p * n := by grind
  omega
theorem nu_dn {p q n k : Int} (h : q ≤ p) (k0 : 0 ≤ k) (kn : k + 1 ≤ n) : q * n ≤ nu p q n (k + 1) ∧ nu p q n (k + 1) ≤ nu p q n k ∧ nu p q n k ≤ p * n := by
  rw [nu_eq, nu_eq]
  have h1 := Int.mul_nonneg (show 0 ≤ p - q by omega) k0
  have h2 := Int.mul_le_mul_of_nonneg_left kn (show 0 ≤ p - q by omega)
  have e : (p - q) * (k + 1) = (p - q) * k + (p - q) := by grind
  have e2 : (p - q) * n = p * n - q * n := by grind
  have e3 : (q - p) * k = -((p - q) * k) := by grind
  have e4 : (q - p) * (k + 1) = -((p - q) * (k + 1)) := by grind
  omega
theorem line_at {p q n k : Int} (hn : 1 ≤ n) (k0 : 0 ≤ k) (kn : k ≤ n) : val [(100, p), (100 + n, q)] 3 n (100 + k) = (hup (nu p q n k) n, true) := by
  have hz : hup (nu p q n 0) n = p := by rw [nu_eq, Int.mul_zero, Int.add_zero, hup_mul _ (by omega)]
  have hne : hup (nu p q n n) n = q := by rw [nu_eq, show p * n + (q - p) * n = q * n by grind, hup_mul _ (by omega)]
  rcases Int.lt_or_le 0 k with h | h
  · rcases Int.lt_or_le k n with h2 | h2
    · have e : lb [(100, p), (100 + n, q)] (100 + k) = 1 := lb_eq _ _ 1 (fun j hj => by obtain rfl : j = 0 := by omega
                                                                                        simp [tm]; omega) (by simp) (fun _ => by simp [tm]; omega)
      have e1 : bck [(100, p), (100 + n, q)] (100 + k) = k := by unfold bck; rw [e, if_pos (by omega)]; simp [tm]; omega
      have e2 : ahd [(100, p), (100 + n, q)] (100 + k) = n - k := by unfold ahd; rw [e, if_pos (by simp)]; simp [tm]; omega
      have e3 : bv [(100, p), (100 + n, q)] (100 + k) = p := by unfold bv; rw [e, if_pos (by omega)]; simp [vl]
      have e4 : av [(100, p), (100 + n, q)] (100 + k) = q := by unfold av; rw [e, if_pos (by simp)]; simp [vl]
      unfold val
      rw [e1, e2, e3, e4, e, if_neg (fun h => by have := h.2; simp [tm] at this; omega), if_neg (by decide), if_neg (by decide), if_pos rfl, if_pos ⟨by omega, by omega⟩, show k + (n - k) = n by omega]
      rfl
    · obtain rfl : k = n := by omega
      have e : lb [(100, p), (100 + k, q)] (100 + k) = 1 := lb_eq _ _ 1 (fun j hj => by obtain rfl : j = 0 := by omega
                                                                                        simp [tm]; omega) (by simp) (fun _ => by simp [tm])
      unfold val
      rw [e, if_pos ⟨by simp, by simp [tm]⟩, hne]
      simp [vl]
  · obtain rfl : k = 0 := by omega
    have e : lb [(100, p), (100 + n, q)] (100 + 0) = 0 := lb_eq _ _ 0 (fun j hj => by omega) (by simp) (fun _ => by simp [tm])
    unfold val
    rw [e, if_pos ⟨by simp, by simp [tm]⟩, hz]
    simp [vl]
end Go.Proofs.YtnjojdmmalmhaaaGreatDoor.Rm
namespace Go.Proofs.YtnjojdmmalmhaaaGreatDoor.Rg
open Go.ChangeShapes Go.WideShapes Go.RowKit Wo Sr Wi Rm
set_option linter.unusedVariables false
/-- readings, flat -/
def rs (l : List Rp) : List Value := l.flatMap fun p => [.int .i64 p.1, .int .i64 p.2]
theorem rs_cons (p : Rp) (l : List Rp) : rs (p :: l) = .int .i64 p.1 :: .int .i64 p.2 :: rs l := rfl
theorem rs_len (l : List Rp) : (rs l).length = l.length * 2 := by
  induction l with
  | nil => rfl
  | cons p l ih => rw [rs_cons, List.length_cons, List.length_cons, ih, List.length_cons]; omega
theorem rs_app (a b : List Rp) : rs (a ++ b) = rs a ++ rs b := by simp [rs]
theorem rs_at (l : List Rp) (i : Nat) (h : i < l.length) : (rs l)[i * 2]? = some (.int .i64 (tm l i)) ∧ (rs l)[i * 2 + 1]? = some (.int .i64 (vl l i)) := by
  induction l generalizing i with
  | nil => simp at h
  | cons p l ih =>
    rcases i with _ | i
    · exact ⟨rfl, rfl⟩
    · have := ih i (by simpa using h)
      rw [rs_cons, show (i + 1) * 2 = i * 2 + 1 + 1 by omega]
      simpa [tm, vl] using this
/-- a slice that reads as these readings -/
def Zr (w : World) (A : Option Addr) (n : Nat) (l : List Rp) : Prop := l.length = n ∧ (0 < n → ∃ g : Nat, A = some ⟨g, 0, none⟩ ∧ g < w.heap.size ∧ ∀ j, j < n → w.cell? ⟨g, j * 2, none⟩ = some (.int .i64 (tm l j)) ∧ w.cell? ⟨g, j * 2 + 1, none⟩ = some (.int .i64 (vl l j)))
theorem Zr.bel {w w' : World} {A : Option Addr} {n : Nat} {l : List Rp} (h : Zr w A n l) (hb : Bel w w') : Zr w' A n l :=
  ⟨h.1, fun hn => by
    obtain ⟨ad, e, hx, hc⟩ := h.2 hn
    exact ⟨ad, e, by have := hb.size; omega, fun j hj => ⟨hb.kp (hc j hj).1, hb.kp (hc j hj).2⟩⟩⟩
theorem Zr.at {w : World} {g n : Nat} {l : List Rp} (h : Zr w (some ⟨g, 0, none⟩) n l) (j : Nat) (hj : j < n) : w.cell? ⟨g, j * 2, none⟩ = some (.int .i64 (tm l j)) ∧ w.cell? ⟨g, j * 2 + 1, none⟩ = some (.int .i64 (vl l j)) := by
  obtain ⟨ad, e, _, hc⟩ := h.2 (by omega)
  cases e
  exact hc j hj
theorem Zr.ch {w w' : World} {A : Option Addr} {n g : Nat} {l : List Rp} (h : Zr w A n l) (hc : Ch g w w') (hn : ∀ k, A = some ⟨k, 0, none⟩ → k ≠ g) : Zr w' A n l :=
  ⟨h.1, fun h0 => by
    obtain ⟨ad, e, hx, hcc⟩ := h.2 h0
    exact ⟨ad, e, by have := hc.sz; omega, fun j hj => ⟨hc.kp (hcc j hj).1 (hn ad e), hc.kp (hcc j hj).2 (hn ad e)⟩⟩⟩
theorem zr_bk {w : World} {h : Nat} {t : TypeId} {l : List Rp} (hb : Bk w h t (rs l).toArray) (n : Nat) (hn : l.length = n) : Zr w (some ⟨h, 0, none⟩) n l := by
  subst hn
  refine ⟨rfl, fun _ => ⟨_, rfl, hb.lt, fun j hj => ?_⟩⟩
  have e := rs_at l j hj
  rw [hb.cell, hb.cell]
  simpa using e
theorem rrow_form {w : World} {base n : Nat} {v : Value} {l : List Rp} (h : w.ownsRow base 57 2 v n (rs l)) (hn : 0 < n) : ∃ g c, v = .slice (some ⟨g, 0, none⟩) n c ∧ n ≤ c ∧ base ≤ g := by
  rcases h.2 with ⟨_, h0⟩ | ⟨g, cap, cur, hv, hb, hg, h1, _⟩
  · omega
  · exact ⟨g, cap, hv, h1, hb⟩
theorem own_zr {w : World} {base k : Nat} {v : Value} {l : List Rp} (hr : w.ownsRow base 57 2 v k (rs l)) (hk : l.length = k) : ∃ A c, v = .slice A k c ∧ Zr w A k l := by
  rcases hr.2 with ⟨rfl, rfl⟩ | ⟨g, cap, cur, rfl, hb, hg, rest⟩
  · exact ⟨none, 0, rfl, hk, fun h => by omega⟩
  · refine ⟨_, cap, rfl, hk, fun hn => ⟨_, rfl, (hr.lt g rfl).2, fun j hj => ?_⟩⟩
    have e := rs_at l j (by omega)
    have h1 := hr.cells (g := g) rfl _ _ e.1
    have h2 := hr.cells (g := g) rfl _ _ e.2
    rw [add_row] at h1 h2
    exact ⟨h1, h2⟩
theorem info_reading : (Tryz.prog.info? 57).map (fun i => (i.zero, i.size, i.bytes)) = some (some (.agg #[.int .i64 0, .int .i64 0]), 2, 16) := by kernel_rfl
theorem wp_appr (w : World) {o : Oper} {a : Act} {K : Act → World → Prop} {Q : Exit → Act → World → Prop} (s x : Operand)
    (ho : o.op = .call { callee := .builtin .append, args := #[s, x], argTypes := #[46, 46] })
    (base : Nat) (v : Value) (n : Nat) (l : List Rp) (hs : a.eval s = v) (hown : w.ownsRow base 57 2 v n (rs l)) (g c : Nat) (p : Rp) (hx : a.eval x = .slice (some ⟨g, 0, none⟩) 1 c)
    (hM : Bk w g 57 #[.int .i64 p.1, .int .i64 p.2]) (hn : n ≤ 100000) (hbase : base ≤ w.heap.size)
    (h : ∀ v' w', w'.ownsRow base 57 2 v' (n + 1) (rs (l ++ [p])) → w.grownBy w' v.ownBlock → (v'.ownBlock = v.ownBlock ∨ v'.ownBlock = some w.heap.size) → K (a.put o.dst v') w') : o.wp Tryz.prog a w K Q := by
  obtain ⟨i0, hi0, hz0, hz1, hz2⟩ := info_parts info_reading
  obtain ⟨v', w', hr, h2, h3, _, h5⟩ := run_append_own_at (P := Tryz.prog) w base 46 o.type 57 i0 (.agg #[.int .i64 0, .int .i64 0]) 2 16 Tryz.underlying46 hi0 hz0 hz1 hz2 (by rfl) (by omega) v n (rs l) hown ⟨g, 0, none⟩ 1 c (rs [p]) (by rfl) (by
    intro j u hu
    rw [add_row, Bk.cell (t := 57) hM j]
    have e : rs [p] = [.int .i64 p.1, .int .i64 p.2] := rfl
    rw [e] at hu
    simpa using hu) (by intro u hu; simp [rs] at hu; rcases hu with rfl | rfl <;> rfl) (by unfold maxLen; omega) (by omega) hbase
  unfold Oper.wp execOp
  simp only [ho, resolve, invoke, builtin, Sem.run_bind, Sem.run_pure, Result.andThen_ok, List.map_toArray, List.map_cons, List.map_nil, hs, hx, hr]
  exact h v' w' (by rw [rs_app]; exact h2) h3 h5
/-- at a step of a region that draws its order -/
theorem step_appr (w : World) {ops : Array Oper} {o : Oper} {a : Act} {K : Act → World → Prop} {Q : Exit → Act → World → Prop} {E : Prop} (hgd : o.guard = none) (s x : Operand)
    (ho : o.op = .call { callee := .builtin .append, args := #[s, x], argTypes := #[46, 46] })
    (base : Nat) (v : Value) (n : Nat) (l : List Rp) (hs : a.eval s = v) (hown : w.ownsRow base 57 2 v n (rs l)) (g c : Nat) (p : Rp) (hx : a.eval x = .slice (some ⟨g, 0, none⟩) 1 c)
    (hM : Bk w g 57 #[.int .i64 p.1, .int .i64 p.2]) (hn : n ≤ 100000) (hbase : base ≤ w.heap.size)
    (h : ∀ v' w', w'.ownsRow base 57 2 v' (n + 1) (rs (l ++ [p])) → w.grownBy w' v.ownBlock → (v'.ownBlock = v.ownBlock ∨ v'.ownBlock = some w.heap.size) → K (a.put o.dst v') w') :
    if Region.wanted o (yielded ops a.tmps) = true then Oper.wp Tryz.prog o a w K Q else E := by
  have hw : Region.wanted o (yielded ops a.tmps) = true := by simp [Region.wanted, hgd]
  rw [if_pos hw]
  exact wp_appr w s x ho base v n l hs hown g c p hx hM hn hbase h
/-- at the list of a plain region -/
theorem list_appr (w : World) {ops : Array Oper} {rest : List Oper} {o : Oper} {a : Act} {Q : Exit → Act → World → Prop} (hgd : o.guard = none) (s x : Operand)
    (ho : o.op = .call { callee := .builtin .append, args := #[s, x], argTypes := #[46, 46] })
    (base : Nat) (v : Value) (n : Nat) (l : List Rp) (hs : a.eval s = v) (hown : w.ownsRow base 57 2 v n (rs l)) (g c : Nat) (p : Rp) (hx : a.eval x = .slice (some ⟨g, 0, none⟩) 1 c)
    (hM : Bk w g 57 #[.int .i64 p.1, .int .i64 p.2]) (hn : n ≤ 100000) (hbase : base ≤ w.heap.size)
    (h : ∀ v' w', w'.ownsRow base 57 2 v' (n + 1) (rs (l ++ [p])) → w.grownBy w' v.ownBlock → (v'.ownBlock = v.ownBlock ∨ v'.ownBlock = some w.heap.size) → wpList Tryz.prog ops Q rest (a.put o.dst v') w') : wpList Tryz.prog ops Q (o :: rest) a w :=
  wpList_plain hgd fun _ hK => wp_appr w s x ho base v n l hs hown g c p hx hM hn hbase fun v' w' h2 h3 h5 => hK _ _ (h v' w' h2 h3 h5)
/-- a valid reading -/
def Vr (t v : Int) : Prop := 0 ≤ t ∧ t ≤ 1099511627776 ∧ -1000 ≤ v ∧ v ≤ 1000
theorem reading_ok (t v : Int) (h : Vr t v) (w : World) : Calls Tryz.prog 83 #[.agg #[.int .i64 t, .int .i64 v]] w fun e w' => e = .returned (.bool true) ∧ Bel w w' := by
  obtain ⟨h1, h2, h3, h4⟩ := h
  go_enter Tryz.func83, Tryz.ntmps83
  go_wp2_with (go_at_call 68; refine (sample_ok v h3 h4 _).mono ?_; rintro e w' ⟨rfl, rfl⟩)
  go_ret
  exact ⟨rfl, by first | exact Bel.rf | exact Bel.rf.al _ | exact (Bel.rf.al _).drwN _⟩
def Vrs (l : List Rp) : Prop := ∀ i, i < l.length → Vr (tm l i) (vl l i)
set_option maxHeartbeats 4000000 in
theorem readings_ok (A : Option Addr) (c n : Nat) (l : List Rp) (hn : n ≤ 2000) (hs : Vrs l) (w : World) (h : Zr w A n l) :
    Calls Tryz.prog 62 #[.slice A n c] w fun e w' => e = .returned (.int .i64 0) ∧ Bel w w' := by
  have H1 := Lib.hid h
  have HS := Lib.hid hs
  have ni : (n : Int) ≤ 2000 := by omega
  clear h hs
  go_enter Tryz.func62, Tryz.ntmps62
  go_wp2
  go_loopw [10] (fun s7 wr => ∃ (k : Nat) (V : World), V = wr ∧ k ≤ n ∧ s7 = .int .i64 (k : Int) ∧ Bel w wr) (fun s7 _ => n - (intOf s7).toNat)
  case atStart => exact ⟨0, _, rfl, by omega, rfl, Bel.rf⟩
  case round =>
    obtain ⟨k, wr, hwr, hk, rfl, hb⟩ := hrel
    subst hwr
    have HB := Lib.hid hb
    rcases Nat.lt_or_ge k n with hlt | hge
    · obtain ⟨ad, rfl, hab, hac⟩ := (H1.out.bel hb).2 (by omega)
      obtain ⟨c1, c2⟩ := hac k hlt
      have hx := HS.out k (by rw [H1.out.1]; exact hlt)
      obtain ⟨x, hxe⟩ : ∃ x, tm l k = x := ⟨_, rfl⟩
      obtain ⟨y, hye⟩ : ∃ x, vl l k = x := ⟨_, rfl⟩
      rw [hxe] at c1 hx
      rw [hye] at c2 hx
      have HX := Lib.hid hx
      have ki : (k : Int) < (n : Int) := by omega
      clear hb hac hab hxe hye hx
      go_wp2_with (go_at_call 83; refine (reading_ok x y HX.out _).mono ?_; rintro e w' ⟨rfl, hbr⟩)
      go_roundw
      case rel => exact ⟨k + 1, _, rfl, by omega, by go_num, by first | exact HB.out.tr hbr | exact (HB.out.drwN _).tr hbr | exact HB.out.drw.tr hbr | exact ((HB.out.al _).drwN _).tr hbr | exact (HB.out.al _).tr hbr⟩
      case measure => simp [intOf]; omega
    · obtain rfl : k = n := by omega
      clear hb
      go_wp2
      go_ret
      exact ⟨rfl, HB.out⟩
end Go.Proofs.YtnjojdmmalmhaaaGreatDoor.Rg
namespace Go.Proofs.YtnjojdmmalmhaaaGreatDoor.Un
set_option linter.unusedVariables false
/-- Go's quotient and rest against the rounded-down ones -/
theorem fl_parts (a b : Int) (hb : 1 ≤ b) : (a.tmod b < 0 → a.tdiv b - 1 = a / b) ∧ (0 ≤ a.tmod b → a.tdiv b = a / b) ∧ -b < a.tmod b ∧ a.tmod b < b := by
  have e := Int.mul_tdiv_add_tmod a b
  have h1 : a.tmod b < b := Int.tmod_lt_of_pos a (by omega)
  have h2 : -b < a.tmod b := by
    rcases Int.lt_or_le a 0 with h | h
    · have := Int.neg_tmod (a := -a) (b := b)
      rw [Int.neg_neg] at this
      have k := Int.tmod_lt_of_pos (-a) (b := b) (by omega)
      omega
    · have := Int.tmod_nonneg b h
      omega
  generalize a.tdiv b = t at *
  generalize a.tmod b = m at *
  subst e
  refine ⟨fun h => ?_, fun h => ?_, h2, h1⟩
  · have : b * t + m = (b + m) + b * (t - 1) := by grind
    rw [this, Int.add_mul_ediv_left _ _ (by omega), Int.ediv_eq_zero_of_lt (by omega) (by omega)]
    omega
  · rw [Int.add_comm, Int.add_mul_ediv_left _ _ (by omega), Int.ediv_eq_zero_of_lt h h1]
    omega
theorem td_bound (a b M : Int) (hb : 1 ≤ b) (h0 : -M ≤ a) (h1 : a ≤ M) : -M ≤ a.tdiv b ∧ a.tdiv b ≤ M := by
  have e := Int.mul_tdiv_add_tmod a b
  have hs := fl_parts a b hb
  have hm : (0 ≤ a → 0 ≤ a.tmod b) ∧ (a < 0 → a.tmod b ≤ 0) := by
    constructor
    · intro h; exact Int.tmod_nonneg b h
    · intro h
      have := Int.neg_tmod (a := -a) (b := b)
      rw [Int.neg_neg] at this
      have k := Int.tmod_nonneg b (show 0 ≤ -a by omega)
      omega
  generalize a.tdiv b = t at *
  generalize a.tmod b = m at *
  have hbt : (0 ≤ t → t ≤ b * t) ∧ (t ≤ 0 → b * t ≤ t) := by
    constructor
    · intro h; have := Int.mul_le_mul_of_nonneg_right hb h; omega
    · intro h; have := Int.mul_le_mul_of_nonneg_right hb (show 0 ≤ -t by omega); have e2 : b * -t = -(b * t) := by grind
      omega
  rcases Int.lt_or_le t 0 with ht | ht
  · have := hbt.2 (by omega)
    rcases Int.lt_or_le a 0 with ha | ha
    · have := hm.2 ha
      have := hs.2.2
      constructor
      · rcases Int.lt_or_le t (-M) with hx | hx
        · have hq : b * t ≤ b * (-M - 1) := Int.mul_le_mul_of_nonneg_left (by omega) (by omega)
          have hq2 : b * (-M - 1) = -(b * M) - b := by grind
          have hq3 : M ≤ b * M := by have := Int.mul_le_mul_of_nonneg_right hb (show 0 ≤ M by omega); omega
          omega
        · exact hx
      · omega
    · have := hm.1 ha
      have := hs.2.2
      have hq : b * t ≤ b * (-1) := Int.mul_le_mul_of_nonneg_left (by omega) (by omega)
      omega
  · have := hbt.1 ht
    rcases Int.lt_or_le a 0 with ha | ha
    · have := hm.2 ha
      have := hs.2.2
      rcases Int.lt_or_le 0 t with hx | hx
      · have hq : b * 1 ≤ b * t := Int.mul_le_mul_of_nonneg_left (by omega) (by omega)
        omega
      · omega
    · have := hm.1 ha
      omega
/-- a quotient rounded to the nearest integer, halves up -/
def hup (a b : Int) : Int := (2 * a + b) / (2 * b)
theorem hup_in (a b : Int) (hb : 1 ≤ b) : -b ≤ 2 * (a - hup a b * b) ∧ 2 * (a - hup a b * b) < b := by
  unfold hup
  have e := Int.emod_add_mul_ediv (2 * a + b) (2 * b)
  have h0 := Int.emod_nonneg (2 * a + b) (b := 2 * b) (by omega)
  have h1 := Int.emod_lt_of_pos (2 * a + b) (b := 2 * b) (by omega)
  generalize (2 * a + b) / (2 * b) = q at *
  have e2 : 2 * b * q = 2 * (q * b) := by grind
  omega
theorem hup_of (a b q : Int) (hb : 1 ≤ b) (h0 : -b ≤ 2 * (a - q * b)) (h1 : 2 * (a - q * b) < b) : hup a b = q := by
  unfold hup
  have e : 2 * a + b = (2 * (a - q * b) + b) + 2 * b * q := by grind
  rw [e, Int.add_mul_ediv_left _ _ (by omega), Int.ediv_eq_zero_of_lt (by omega) (by omega)]
  omega
theorem hup_scale (a b k : Int) (hb : 1 ≤ b) (hk : 1 ≤ k) : hup (a * k) (b * k) = hup a b := by
  unfold hup
  have e1 : 2 * (a * k) + b * k = (2 * a + b) * k := by grind
  have e2 : 2 * (b * k) = 2 * b * k := by grind
  rw [e1, e2, Int.mul_ediv_mul_of_pos_left _ _ (by omega)]
theorem hup_mono (a c b : Int) (hb : 1 ≤ b) (h : a ≤ c) : hup a b ≤ hup c b := by
  unfold hup
  exact Int.ediv_le_ediv (by omega) (by omega)
theorem hup_ge (a b s : Int) (hb : 1 ≤ b) : (s ≤ hup a b) ↔ (2 * s - 1) * b ≤ 2 * a := by
  unfold hup
  rw [Int.le_ediv_iff_mul_le (by omega)]
  have : s * (2 * b) = (2 * s - 1) * b + b := by grind
  omega
end Go.Proofs.YtnjojdmmalmhaaaGreatDoor.Un
namespace Go.Proofs.YtnjojdmmalmhaaaGreatDoor.Un
open Go.ChangeShapes Go.WideShapes Go.RowKit Wo
set_option linter.unusedVariables false
theorem floor_any (a b : Int) (h1 : 1 ≤ b) (h2 : b ≤ 4611686018427387904) (h3 : -4611686018427387904 ≤ a) (h4 : a ≤ 4611686018427387904) (w : World) :
    Calls Tryz.prog 85 #[.int .i64 a, .int .i64 b] w fun e w' => e = .returned (.int .i64 (a / b)) ∧ w = w' := by
  have m := fl_parts a b h1
  have t := td_bound a b 4611686018427387904 h1 h3 h4
  have t0 := t.1
  have t1 := t.2
  have hne : b ≠ 0 := by omega
  have e1 := m.2.2.1
  have e2 := m.2.2.2
  have tw : IntKind.i64.wrap (a.tdiv b) = a.tdiv b := IntWalk.i64_in _ (by omega)
  have tw2 : IntKind.i64.wrap (a.tdiv b - 1) = a.tdiv b - 1 := IntWalk.i64_in _ (by omega)
  rcases Int.lt_or_le (a.tmod b) 0 with h | h
  · have HE := Lib.hid (m.1 h)
    clear m t
    go_enter Tryz.func85, Tryz.ntmps85
    go_wp2
    go_ret
    exact ⟨ret_int HE.out, rfl⟩
  · have HE := Lib.hid (m.2.1 h)
    clear m t
    go_enter Tryz.func85, Tryz.ntmps85
    go_wp2
    go_ret
    exact ⟨ret_int HE.out, rfl⟩
theorem half_any (a b : Int) (h1 : 1 ≤ b) (h2 : b ≤ 1152921504606846976) (h3 : -1152921504606846976 ≤ a) (h4 : a ≤ 1152921504606846976) (w : World) :
    Calls Tryz.prog 66 #[.int .i64 a, .int .i64 b] w fun e w' => e = .returned (.int .i64 (hup a b)) ∧ w = w' := by
  have HE : Hid (∀ w, Calls Tryz.prog 85 #[.int .i64 (2 * a + b), .int .i64 (2 * b)] w fun e w' => e = .returned (.int .i64 (hup a b)) ∧ w = w') :=
    fun w => floor_any (2 * a + b) (2 * b) (by omega) (by omega) (by omega) (by omega) w
  go_enter Tryz.func66, Tryz.ntmps66
  go_wp2_with (go_at_call 85; refine (HE.out _).mono ?_; rintro e w' ⟨rfl, rfl⟩)
  go_ret
  exact ⟨rfl, rfl⟩
def smp (n : Int) : Bool := decide (-1000 ≤ n ∧ n ≤ 1000)
theorem sample_any (n : Int) (w : World) : Calls Tryz.prog 68 #[.int .i64 n] w fun e w' => e = .returned (.bool (smp n)) ∧ w = w' := by
  rcases Int.lt_or_le n (-1000) with h | h
  · have HE : Hid (smp n = false) := decide_eq_false (by omega)
    have b1 : decide (-1000 ≤ n) = false := decide_eq_false (by omega)
    go_enter Tryz.func68, Tryz.ntmps68
    go_wp2
    go_ret
    exact ⟨ret_bool HE.out.symm, rfl⟩
  · rcases Int.lt_or_le 1000 n with k | k
    · have HE : Hid (smp n = false) := decide_eq_false (by omega)
      have b1 : decide (-1000 ≤ n) = true := decide_eq_true (by omega)
      have b2 : decide (n ≤ 1000) = false := decide_eq_false (by omega)
      go_enter Tryz.func68, Tryz.ntmps68
      go_wp2
      go_ret
      exact ⟨ret_bool HE.out.symm, rfl⟩
    · have HE : Hid (smp n = true) := decide_eq_true (by omega)
      have b1 : decide (-1000 ≤ n) = true := decide_eq_true (by omega)
      have b2 : decide (n ≤ 1000) = true := decide_eq_true (by omega)
      go_enter Tryz.func68, Tryz.ntmps68
      go_wp2
      go_ret
      exact ⟨ret_bool HE.out.symm, rfl⟩
theorem dec_yes (x p : Int) (h1 : -1000000000 ≤ x) (h2 : x ≤ 1000000000) (h3 : 0 ≤ p) (h4 : p ≤ 6) (w : World) :
    Calls Tryz.prog 95 #[.agg #[.int .i64 x, .int .i64 p]] w fun e w' => e = .returned (.bool true) ∧ Bel w w' := by
  go_enter Tryz.func95, Tryz.ntmps95
  go_wp2
  go_ret
  exact ⟨rfl, Bel.rf.al _⟩
/-- a name of a unit -/
def Low (s : ByteArray) : Prop := 1 ≤ s.size ∧ s.size ≤ 12 ∧ ∀ (i : Nat) (h : i < s.size), 97 ≤ s[i].toNat ∧ s[i].toNat ≤ 122
set_option maxHeartbeats 2000000 in
set_option maxRecDepth 100000 in
theorem unit_yes (s : ByteArray) (m a d : Int) (hs : Low s) (m1 : 1 ≤ m) (m2 : m ≤ 1000000) (a1 : -1000000000 ≤ a) (a2 : a ≤ 1000000000) (d1 : 1 ≤ d) (d2 : d ≤ 1000000) (w : World) :
    Calls Tryz.prog 75 #[.agg #[.string s, .int .i64 m, .int .i64 a, .int .i64 d]] w fun e w' => e = .returned (.bool true) ∧ Bel w w' := by
  have s1 := hs.1
  have s2 := hs.2.1
  have HS := Lib.hid hs.2.2
  clear hs
  have si : (s.size : Int) ≤ 12 := by omega
  have si1 : (1 : Int) ≤ (s.size : Int) := by omega
  go_enter Tryz.func75, Tryz.ntmps75
  go_wp2
  have HB : Hid (Bk (w.alloc (.cells #[.string s, .int .i64 m, .int .i64 a, .int .i64 d] 82)) w.heap.size 82 #[.string s, .int .i64 m, .int .i64 a, .int .i64 d]) := Bk.nw _ _ _
  go_loopw [17] (fun t wr => ∃ k : Nat, k ≤ s.size ∧ t = .int .i64 (k : Int) ∧ Bel w wr ∧ Bk wr w.heap.size 82 #[.string s, .int .i64 m, .int .i64 a, .int .i64 d]) (fun t _ => s.size - (intOf t).toNat)
  case atStart => exact ⟨0, by omega, rfl, Bel.rf.al _, HB.out⟩
  case round =>
    obtain ⟨k, hk, rfl, hb, hbk⟩ := hrel
    rename_i wr
    have k0 : wr.cell? ⟨w.heap.size, 0, none⟩ = some (.string s) := hbk.cell 0
    have k1 : wr.cell? ⟨w.heap.size, 1, none⟩ = some (.int .i64 m) := hbk.cell 1
    have k2 : wr.cell? ⟨w.heap.size, 2, none⟩ = some (.int .i64 a) := hbk.cell 2
    have k3 : wr.cell? ⟨w.heap.size, 3, none⟩ = some (.int .i64 d) := hbk.cell 3
    have HBK := Lib.hid hbk
    have HBE := Lib.hid hb
    clear hbk hb HB
    rcases Nat.lt_or_ge k s.size with hlt | hge
    · have h1 := (HS.out k hlt).1
      have h2 := (HS.out k hlt).2
      have hi : (k : Int) < (s.size : Int) := by omega
      go_wp2
      go_roundw
      case rel => exact ⟨k + 1, by omega, by go_num, HBE.out, HBK.out⟩
      case measure => simp [intOf]; omega
    · obtain rfl : k = s.size := by omega
      go_wp2
      go_ret
      exact ⟨rfl, HBE.out⟩
/-- what Convert returns for a valid decimal and a valid unit -/
def cvt (E p : Int) : Value := if smp (hup E p) = true then .tuple #[.int .i64 (hup E p), .int .i64 0] else .tuple #[.int .i64 0, .int .i64 12]
theorem cvt_if {E p q : Int} (hp : 1 ≤ p) (h0 : -p ≤ 2 * (E - q * p)) (h1 : 2 * (E - q * p) < p) : cvt E p = if smp q = true then .tuple #[.int .i64 q, .int .i64 0] else .tuple #[.int .i64 0, .int .i64 12] := by
  unfold cvt
  rw [hup_of E p q hp h0 h1]
theorem cvt_of {E p q : Int} (hp : 1 ≤ p) (h0 : -p ≤ 2 * (E - q * p)) (h1 : 2 * (E - q * p) < p) (h2 : -1000 ≤ q) (h3 : q ≤ 1000) : cvt E p = .tuple #[.int .i64 q, .int .i64 0] := by
  rw [cvt_if hp h0 h1, if_pos (show smp q = true from decide_eq_true ⟨h2, h3⟩)]
theorem mul_in {x y X Y : Int} (h1 : -X ≤ x) (h2 : x ≤ X) (h3 : 0 ≤ y) (h4 : y ≤ Y) (hX : 0 ≤ X) : -(X * Y) ≤ x * y ∧ x * y ≤ X * Y := by
  have a := Int.mul_le_mul_of_nonneg_right h2 h3
  have b := Int.mul_le_mul_of_nonneg_right h1 h3
  have c := Int.mul_le_mul_of_nonneg_left h4 hX
  have d : -X * y = -(X * y) := by grind
  omega
set_option maxHeartbeats 2000000 in
theorem convert_any (x : Int) (p : Nat) (P : Int) (s : ByteArray) (m a d : Int) (x1 : -1000000000 ≤ x) (x2 : x ≤ 1000000000) (hp : p ≤ 6) (p1 : 1 ≤ P) (p2 : P ≤ 1000000) (hs : Low s) (m1 : 1 ≤ m) (m2 : m ≤ 1000000) (a1 : -1000000000 ≤ a) (a2 : a ≤ 1000000000) (d1 : 1 ≤ d) (d2 : d ≤ 1000000) (w : World)
    (hc : w.cell? ⟨0, p, none⟩ = some (.int .i64 P)) :
    Calls Tryz.prog 81 #[.agg #[.int .i64 x, .int .i64 (p : Int)], .agg #[.string s, .int .i64 m, .int .i64 a, .int .i64 d]] w fun e w' => e = .returned (cvt (x * m + a * P) (d * P)) ∧ Bel w w' := by
  have q1 := mul_in (Y := 1000000) x1 x2 (by omega) m2 (by omega)
  have q2 := mul_in (Y := 1000000) a1 a2 (by omega) p2 (by omega)
  have q3 := mul_in (x := d) (X := 1000000) (Y := 1000000) (by omega) d2 (by omega) p2 (by omega)
  have q4 : 1 ≤ d * P := by have := Int.mul_le_mul_of_nonneg_right d1 (show 0 ≤ P by omega); omega
  have w1 : IntKind.i64.wrap (x * m) = x * m := IntWalk.i64_in _ (by omega)
  have w2 : IntKind.i64.wrap (a * P) = a * P := IntWalk.i64_in _ (by omega)
  have w3 : IntKind.i64.wrap (d * P) = d * P := IntWalk.i64_in _ (by omega)
  have w4 : IntKind.i64.wrap (x * m + a * P) = x * m + a * P := IntWalk.i64_in _ (by omega)
  have pi : (p : Int) ≤ 6 := by omega
  have pi0 : (0 : Int) ≤ (p : Int) := by omega
  have HD : Hid (∀ w, Calls Tryz.prog 95 #[.agg #[.int .i64 x, .int .i64 (p : Int)]] w fun e w' => e = .returned (.bool true) ∧ Bel w w') := fun w => dec_yes x p x1 x2 pi0 pi w
  have HU : Hid (∀ w, Calls Tryz.prog 75 #[.agg #[.string s, .int .i64 m, .int .i64 a, .int .i64 d]] w fun e w' => e = .returned (.bool true) ∧ Bel w w') := fun w => unit_yes s m a d hs m1 m2 a1 a2 d1 d2 w
  have HH : Hid (∀ w, Calls Tryz.prog 66 #[.int .i64 (x * m + a * P), .int .i64 (d * P)] w fun e w' => e = .returned (.int .i64 (hup (x * m + a * P) (d * P))) ∧ w = w') := fun w => half_any _ _ q4 (by omega) (by omega) (by omega) w
  have HC := Lib.hid hc
  clear hc hs
  go_enter Tryz.func81, Tryz.ntmps81
  go_wp2_with fail
  go_at_call 95
  refine (HD.out _).mono ?_
  rintro e w5 ⟨rfl, h5⟩
  have B2 : Bk w5 (w.heap.size + 1) 82 #[.string s, .int .i64 m, .int .i64 a, .int .i64 d] := (Bk.nq (w.alloc _) _ _ (by simp)).bel h5
  have HX : Hid (Bel w w5) := ((Bel.rf.al _).al _).tr h5
  have HB1 : Hid (Bk w5 w.heap.size 147 #[.int .i64 x, .int .i64 (p : Int)]) := ((Bk.nw _ _ _).al _).bel h5
  have HB2 := Lib.hid B2
  have c0 : w5.cell? ⟨w.heap.size + 1, 0, none⟩ = some (.string s) := B2.cell 0
  have c1 : w5.cell? ⟨w.heap.size + 1, 1, none⟩ = some (.int .i64 m) := B2.cell 1
  have c2 : w5.cell? ⟨w.heap.size + 1, 2, none⟩ = some (.int .i64 a) := B2.cell 2
  have c3 : w5.cell? ⟨w.heap.size + 1, 3, none⟩ = some (.int .i64 d) := B2.cell 3
  clear h5 B2
  go_wp2_with fail
  go_at_call 75
  refine (HU.out _).mono ?_
  rintro e w6 ⟨rfl, h6⟩
  have B1 := HB1.out.bel h6
  have B2 := HB2.out.bel h6
  have k0 : w6.cell? ⟨w.heap.size, 0, none⟩ = some (.int .i64 x) := B1.cell 0
  have k1 : w6.cell? ⟨w.heap.size, 1, none⟩ = some (.int .i64 (p : Int)) := B1.cell 1
  have k2 : w6.cell? ⟨w.heap.size + 1, 1, none⟩ = some (.int .i64 m) := B2.cell 1
  have k3 : w6.cell? ⟨w.heap.size + 1, 2, none⟩ = some (.int .i64 a) := B2.cell 2
  have k4 : w6.cell? ⟨w.heap.size + 1, 3, none⟩ = some (.int .i64 d) := B2.cell 3
  have hx6 := HX.out.tr h6
  have k5 : w6.cell? ⟨0, p, none⟩ = some (.int .i64 P) := hx6.kp HC.out
  have HX6 := Lib.hid hx6
  clear h6 B1 B2 hx6 c0 c1 c2 c3
  go_wp2_with fail
  go_at_call 66
  refine (HH.out _).mono ?_
  rintro e w7 ⟨rfl, rfl⟩
  clear w1 w2 w3 w4
  generalize hG : hup (x * m + a * P) (d * P) = q
  have HG := Lib.hid hG
  clear hG
  have HV : Hid (cvt (x * m + a * P) (d * P) = if smp q = true then .tuple #[.int .i64 q, .int .i64 0] else .tuple #[.int .i64 0, .int .i64 12]) := by
    show cvt (x * m + a * P) (d * P) = _
    unfold cvt
    rw [HG.out]
  rcases hS : smp q
  · rw [hS] at HV
    have HS := Lib.hid hS
    have HSC : Hid (∀ w, Calls Tryz.prog 68 #[.int .i64 q] w fun e w' => e = .returned (.bool false) ∧ w = w') := fun w => by have := sample_any q w; rwa [HS.out] at this
    clear hS
    go_wp2_with (go_at_call 68; refine (HSC.out _).mono ?_; rintro e w' ⟨rfl, rfl⟩)
    go_ret2
    exact ⟨by rw [HV.out]; rfl, HX6.out⟩
  · rw [hS] at HV
    have HS := Lib.hid hS
    have HSC : Hid (∀ w, Calls Tryz.prog 68 #[.int .i64 q] w fun e w' => e = .returned (.bool true) ∧ w = w') := fun w => by have := sample_any q w; rwa [HS.out] at this
    clear hS
    go_wp2_with (go_at_call 68; refine (HSC.out _).mono ?_; rintro e w' ⟨rfl, rfl⟩)
    go_ret2
    exact ⟨by rw [HV.out]; rfl, HX6.out⟩
end Go.Proofs.YtnjojdmmalmhaaaGreatDoor.Un
namespace Go.Proofs.YtnjojdmmalmhaaaGreatDoor.Rt
open Go.Lib Un Rg
open Rm (Rp tm vl)
set_option linter.unusedVariables false
theorem ib_none : ∀ (a : List UInt8) (c : UInt8), c ∉ a → indexByte a c = -1
  | [], c, _ => rfl
  | b :: l, c, h => by
    unfold indexByte
    rw [if_neg (fun e => h (by rw [beq_iff_eq.1 e]; exact List.mem_cons_self)), ib_none l c (fun e => h (List.mem_cons_of_mem _ e))]
    rfl
theorem ib_some : ∀ (a b : List UInt8) (c : UInt8), c ∉ a → indexByte (a ++ c :: b) c = (a.length : Int)
  | [], b, c, _ => by
    show indexByte (c :: b) c = _
    unfold indexByte
    rw [if_pos (beq_iff_eq.2 rfl)]; rfl
  | x :: l, b, c, h => by
    show indexByte (x :: (l ++ c :: b)) c = _
    have ih := ib_some l b c (fun e => h (List.mem_cons_of_mem _ e))
    unfold indexByte
    rw [if_neg (fun e => h (by rw [beq_iff_eq.1 e]; exact List.mem_cons_self)), ih, if_neg (fun e => by have := beq_iff_eq.1 e; omega)]
    rw [List.length_cons]; omega
/-- a text, cut behind its first line -/
def cutN (l : List UInt8) : List UInt8 × List UInt8 := if 0 ≤ indexByte l 10 then (l.take (indexByte l 10).toNat, l.drop ((indexByte l 10).toNat + 1)) else (l, [])
theorem cutN_none (a : List UInt8) (h : (10 : UInt8) ∉ a) : cutN a = (a, []) := by
  unfold cutN
  rw [ib_none a 10 h]; rfl
theorem cutN_some (a b : List UInt8) (h : (10 : UInt8) ∉ a) : cutN (a ++ 10 :: b) = (a, b) := by
  unfold cutN
  rw [ib_some a b 10 h, if_pos (by omega)]
  have e : ((a.length : Int)).toNat = a.length := by omega
  rw [e, List.take_left' rfl]
  congr 1
  rw [← List.drop_drop, List.drop_left' rfl]; rfl
theorem cutN_lt (l : List UInt8) (h : l ≠ []) : (cutN l).2.length < l.length := by
  have hp : 0 < l.length := List.length_pos_iff.2 h
  unfold cutN
  split
  · simp only [List.length_drop]; omega
  · simpa using hp
theorem cutN_le (l : List UInt8) : (cutN l).1.length ≤ l.length := by
  unfold cutN
  split
  · simp only [List.length_take]; omega
  · exact Nat.le_refl _
/-- the lines of a text -/
def lns (l : List UInt8) : List (List UInt8) := if h : l = [] then [] else (cutN l).1 :: lns (cutN l).2
termination_by l.length
decreasing_by exact cutN_lt l h
theorem lns_nil : lns [] = [] := by rw [lns]; rfl
theorem lns_ne (l : List UInt8) (h : l ≠ []) : lns l = (cutN l).1 :: lns (cutN l).2 := by rw [lns, dif_neg h]
theorem lns_line (a b : List UInt8) (h : (10 : UInt8) ∉ a) : lns (a ++ 10 :: b) = a :: lns b := by
  rw [lns_ne _ (by simp), cutN_some a b h]
theorem lns_last (a : List UInt8) (h : (10 : UInt8) ∉ a) (hn : a ≠ []) : lns a = [a] := by
  rw [lns_ne _ hn, cutN_none a h, lns_nil]
theorem lns_len (l : List UInt8) : (lns l).length ≤ l.length := by
  generalize hn : l.length = n
  induction n using Nat.strongRecOn generalizing l with
  | ind n ih =>
    by_cases h : l = []
    · subst h; rw [lns_nil]; simp
    · rw [lns_ne l h, List.length_cons]
      have h1 := cutN_lt l h
      have := ih _ (by omega) (cutN l).2 rfl
      omega
/-- words -/
theorem sp_none (a : List UInt8) (h : (32 : UInt8) ∉ a) : split a [32] = [a] := by
  unfold split
  rw [count_miss (by rw [index_one, ib_none a 32 h])]; rfl
theorem sp_some (a b : List UInt8) (h : (32 : UInt8) ∉ a) : split (a ++ 32 :: b) [32] = a :: split b [32] := by
  have hi : index (a ++ 32 :: b) [32] = (a.length : Int) := by rw [index_one, ib_some a b 32 h]
  have hd : (a ++ 32 :: b).drop (a.length + 1) = b := by rw [← List.drop_drop, List.drop_left' rfl]; rfl
  unfold split
  rw [count_hit (by simp) hi]
  show splitK [32] 0 (1 + count ((a ++ 32 :: b).drop (a.length + 1)) [32]) _ = _
  rw [hd, Nat.add_comm, splitK, hi, if_neg (fun e => by have := beq_iff_eq.1 e; omega)]
  have e : ((a.length : Int)).toNat = a.length := by omega
  rw [e]
  show (a ++ 32 :: b).take (a.length + 0) :: splitK [32] 0 (count b [32]) ((a ++ 32 :: b).drop (a.length + 1)) = _
  rw [hd, Nat.add_zero, List.take_left' rfl]
theorem sp_three (a b c : List UInt8) (h1 : (32 : UInt8) ∉ a) (h2 : (32 : UInt8) ∉ b) (h3 : (32 : UInt8) ∉ c) : split (a ++ 32 :: (b ++ 32 :: c)) [32] = [a, b, c] := by
  rw [sp_some a _ h1, sp_some b c h2, sp_none c h3]
/-- a unit -/
structure Ut where
  nm : List UInt8
  mul : Int
  add : Int
  div : Int
def look (US : List Ut) (n : List UInt8) : Option Ut := US.find? fun u => u.nm == n
/-- whether a word has the form of a time -/
def isT (a : List UInt8) : Bool := decide (1 ≤ a.length) && (decide (a.length ≤ 13) && (!(a.head? == some 48 && a != [48]) && a.all fun c => decide (48 ≤ c.toNat) && decide (c.toNat ≤ 57)))
def p10 (n : Int) : Int := 10 ^ n.toNat
/-- what chapter 4 makes of a decimal -/
def cv (d pl : Int) (u : Ut) : Int := hup (d * u.mul + u.add * p10 pl) (u.div * p10 pl)
/-- what three words are read as -/
def line3 (US : List Ut) (a b n : List UInt8) : Rp × Int :=
  if n = [] ∨ isT a = false then ((0, 0), 3)
  else if rej (rn (trimPrefix b [45])) (hasPrefix b [45]) = true then ((0, 0), 3)
  else if 1099511627776 < (val a : Int) then ((0, 0), 1)
  else if 1000000000 < (rn (trimPrefix b [45])).digits then ((0, 0), 1)
  else match look US n with
    | none => ((0, 0), 7)
    | some u => if smp (cv (if hasPrefix b [45] = true then -(rn (trimPrefix b [45])).digits else (rn (trimPrefix b [45])).digits) (rn (trimPrefix b [45])).places u) = true then ((val a, cv (if hasPrefix b [45] = true then -(rn (trimPrefix b [45])).digits else (rn (trimPrefix b [45])).digits) (rn (trimPrefix b [45])).places u), 0) else ((val a, 0), 12)
/-- what a line is read as -/
def lineS (US : List Ut) (c : List UInt8) : Rp × Int :=
  match split c [32] with
  | [a, b, n] => line3 US a b n
  | _ => ((0, 0), 3)
/-- what the lines of a text are read as -/
def run (US : List Ut) : List (List UInt8) → Nat → List Rp → List Rp × Nat × Int
  | [], n, acc => (acc, 0, 0)
  | c :: cs, n, acc =>
    if c = [] ∨ c.head? = some 35 then run US cs (n + 1) acc
    else if (lineS US c).2 = 0 then (if acc.length = 2000 then ([], n, 4) else run US cs (n + 1) (acc ++ [(lineS US c).1]))
    else ([], n, (lineS US c).2)
theorem run_skip (US : List Ut) (c : List UInt8) (cs : List (List UInt8)) (n : Nat) (acc : List Rp) (h : c = [] ∨ c.head? = some 35) : run US (c :: cs) n acc = run US cs (n + 1) acc := by
  rw [run, if_pos h]
theorem run_bad (US : List Ut) (c : List UInt8) (cs : List (List UInt8)) (n : Nat) (acc : List Rp) (h : ¬ (c = [] ∨ c.head? = some 35)) (h0 : (lineS US c).2 ≠ 0) : run US (c :: cs) n acc = ([], n, (lineS US c).2) := by
  rw [run, if_neg h, if_neg h0]
theorem run_full (US : List Ut) (c : List UInt8) (cs : List (List UInt8)) (n : Nat) (acc : List Rp) (h : ¬ (c = [] ∨ c.head? = some 35)) (h0 : (lineS US c).2 = 0) (hl : acc.length = 2000) : run US (c :: cs) n acc = ([], n, 4) := by
  rw [run, if_neg h, if_pos h0, if_pos hl]
theorem run_good (US : List Ut) (c : List UInt8) (cs : List (List UInt8)) (n : Nat) (acc : List Rp) (h : ¬ (c = [] ∨ c.head? = some 35)) (h0 : (lineS US c).2 = 0) (hl : acc.length ≠ 2000) : run US (c :: cs) n acc = run US cs (n + 1) (acc ++ [(lineS US c).1]) := by
  rw [run, if_neg h, if_pos h0, if_neg hl]
end Go.Proofs.YtnjojdmmalmhaaaGreatDoor.Rt
namespace Go.Proofs.YtnjojdmmalmhaaaGreatDoor.Rt
open Go.Lib Un Rg
open Rm (Rp tm vl)
set_option linter.unusedVariables false
theorem nd_13 {n : Nat} (h : n ≤ 1099511627776) : nDigits n ≤ 13 := by
  rcases Nat.lt_or_ge 13 (nDigits n) with h1 | h1
  · exfalso
    have key : ∀ k u, k < nDigits u → 10 ^ k ≤ u ∨ k = 0 := by
      intro k
      induction k with
      | zero => intro u _; exact .inr rfl
      | succ k ih =>
        intro u hu
        by_cases h10 : u < 10
        · rw [nDigits_small h10] at hu; omega
        · rw [nDigits_big h10] at hu
          rcases ih (u / 10) (by omega) with h2 | h2
          · left; rw [Nat.pow_succ]; omega
          · left; subst h2; simp; omega
    rcases key 13 n h1 with h2 | h2
    · have : (10 : Nat) ^ 13 = 10000000000000 := by decide
      omega
    · omega
  · exact h1
theorem fb_zero (n : Nat) : fb n 0 = decDigits n := by
  unfold fb pad
  have := nDigits_pos n
  rw [if_pos rfl, show 0 + 1 - nDigits n = 0 by omega]; rfl
theorem itoa_fm (x : Int) : itoa x = fm x 0 := by
  unfold itoa fm
  rw [fb_zero]
  split
  · first | rfl | rw [show (-x).toNat = x.natAbs by omega]
  · first | rfl | rw [show x.toNat = x.natAbs by omega]
theorem fm_char (x : Int) : ∀ c ∈ fm x 0, c = 45 ∨ isD c := by
  intro c hc
  have hd := (dec_facts x.natAbs).1
  unfold fm at hc
  rw [fb_zero] at hc
  split at hc
  · rcases List.mem_cons.1 hc with h | h
    · exact .inl h
    · exact .inr (hd c h)
  · exact .inr (hd c hc)
theorem fm_no (x : Int) (k : UInt8) (h1 : k ≠ 45) (h2 : ¬ isD k) : k ∉ fm x 0 := fun h => (fm_char x k h).elim h1 h2
theorem no32 : ¬ isD (32 : UInt8) := by unfold isD; decide
theorem no10 : ¬ isD (10 : UInt8) := by unfold isD; decide
theorem fm_pos (t : Int) (h : 0 ≤ t) : fm t 0 = decDigits t.natAbs := by
  unfold fm
  rw [if_neg (by omega), fb_zero]
theorem isT_dec (n : Nat) (h : n ≤ 1099511627776) : isT (decDigits n) = true := by
  obtain ⟨a, b, c, d⟩ := dec_facts n
  have hl := decDigits_length n
  have h1 := nDigits_pos n
  have h2 := nd_13 h
  have hh : ((decDigits n).head? == some 48 && decDigits n != [48]) = false := by
    rcases Nat.eq_zero_or_pos n with h0 | h0
    · subst h0; rw [dec_small (by omega)]; decide
    · rcases hq : (decDigits n).head? with _ | q
      · rfl
      · have := d h0 q hq
        rw [show ((some q == some (48 : UInt8)) = false) from by simpa using this]
        rfl
  have ha : (decDigits n).all (fun c => decide (48 ≤ c.toNat) && decide (c.toNat ≤ 57)) = true := by
    rw [List.all_eq_true]
    intro x hx
    have := a x hx
    rw [decide_eq_true this.1, decide_eq_true this.2]; rfl
  unfold isT
  rw [decide_eq_true (by omega), decide_eq_true (by omega), hh, ha]; rfl
/-- the line of a reading -/
def lt (p : Rp) : List UInt8 := fm p.1 0 ++ 32 :: (fm p.2 0 ++ 32 :: [114, 97, 119])
/-- the text of readings -/
def ft (l : List Rp) : List UInt8 := l.flatMap fun p => lt p ++ [10]
theorem ft_cons (p : Rp) (l : List Rp) : ft (p :: l) = lt p ++ 10 :: ft l := by simp [ft]
theorem ft_app (a b : List Rp) : ft (a ++ b) = ft a ++ ft b := by simp [ft]
theorem lt_no (p : Rp) : (10 : UInt8) ∉ lt p := by
  intro h
  unfold lt at h
  rcases List.mem_append.1 h with h | h
  · exact fm_no p.1 10 (by decide) no10 h
  · rcases List.mem_cons.1 h with h | h
    · exact absurd h (by decide)
    · rcases List.mem_append.1 h with h | h
      · exact fm_no p.2 10 (by decide) no10 h
      · exact absurd h (by decide)
theorem lns_ft (l : List Rp) (b : List UInt8) : lns (ft l ++ b) = l.map lt ++ lns b := by
  induction l with
  | nil => rfl
  | cons p l ih =>
    rw [ft_cons, List.append_assoc, List.cons_append, lns_line _ _ (lt_no p), ih]; rfl
theorem prs_inv {S : Sc} {m : Bool} {X P : Int} (h : prs S m = .tuple #[.agg #[.int .i64 X, .int .i64 P], .int .i64 0]) :
    rej S m = false ∧ ¬ 1000000000 < S.digits ∧ (if m = true then -S.digits else S.digits) = X ∧ S.places = P := by
  unfold prs at h
  split at h
  · simp at h
  · rename_i h1
    split at h
    · simp at h
    · rename_i h2
      simp only [Value.tuple.injEq, Array.mk.injEq, List.cons.injEq, Value.agg.injEq, Value.int.injEq] at h
      exact ⟨by simpa using h1, h2, by simpa using h.1.1.2, by simpa using h.1.2.1.2⟩
def raw : Ut := ⟨[114, 97, 119], 1, 0, 1⟩
theorem line_lt (US : List Ut) (p : Rp) (hv : Vr p.1 p.2) (hU : look US [114, 97, 119] = some raw) : lineS US (lt p) = (p, 0) := by
  obtain ⟨t, v⟩ := p
  obtain ⟨t0, t1, v0, v1⟩ := hv
  simp only at t0 t1 v0 v1
  have hp : (lt (t, v)) = fm t 0 ++ 32 :: (fm v 0 ++ 32 :: [114, 97, 119]) := rfl
  have hT : isT (fm t 0) = true := by rw [fm_pos t t0]; exact isT_dec _ (by omega)
  have hval : (val (fm t 0) : Int) = t := by rw [fm_pos t t0, (dec_facts t.natAbs).2.1]; omega
  obtain ⟨b1, b2, b3, b4⟩ := prs_inv (fm_back v 0 (by omega) (by omega) (by omega))
  have hpre := fm_pre v 0
  have hcv : cv v 0 raw = v := by
    show hup (v * 1 + 0 * (10 ^ (0 : Int).toNat)) (1 * (10 ^ (0 : Int).toNat)) = v
    have e : (10 ^ (0 : Int).toNat : Int) = 1 := by rfl
    rw [e]; unfold hup; omega
  have hs : smp v = true := decide_eq_true ⟨v0, v1⟩
  unfold lineS
  rw [hp, sp_three _ _ _ (fm_no t 32 (by decide) no32) (fm_no v 32 (by decide) no32) (by decide)]
  simp only
  unfold line3
  rw [if_neg (by rw [hT]; simp), hpre.1, hpre.2, if_neg (by rw [b1]; simp), if_neg (by omega), if_neg b2, hU]
  simp only
  rw [b3, b4, show ((0 : Nat) : Int) = 0 from rfl, hcv, if_pos hs, hval]
theorem run_ft (US : List Ut) (hU : look US [114, 97, 119] = some raw) (l : List Rp) : ∀ (cs : List (List UInt8)) (n : Nat) (acc : List Rp), Vrs l → acc.length + l.length ≤ 2000 →
    run US (l.map lt ++ cs) n acc = run US cs (n + l.length) (acc ++ l) := by
  induction l with
  | nil => intro cs n acc _ _; simp
  | cons p l ih =>
    intro cs n acc hv hl
    have h0 : Vr p.1 p.2 := hv 0 (by simp)
    have hv' : Vrs l := fun i hi => by
      have := hv (i + 1) (by simpa using hi)
      simpa [tm, vl] using this
    have hL := line_lt US p h0 hU
    have hne : ¬ (lt p = [] ∨ (lt p).head? = some 35) := by
      have hc : ∃ c r, lt p = c :: r ∧ c ∈ fm p.1 0 := by
        rcases hq : fm p.1 0 with _ | ⟨c, r⟩
        · have h1 := decDigits_length p.1.natAbs
          have h2 := nDigits_pos p.1.natAbs
          rw [fm_pos p.1 h0.1] at hq
          rw [hq] at h1; simp at h1; omega
        · exact ⟨c, r ++ 32 :: (fm p.2 0 ++ 32 :: [114, 97, 119]), by unfold lt; rw [hq]; rfl, by simp⟩
      obtain ⟨c, r, e, hc⟩ := hc
      rw [e]
      intro h
      rcases h with h | h
      · simp at h
      · simp at h
        rcases fm_char p.1 c hc with h' | h'
        · rw [h] at h'; exact absurd h' (by decide)
        · rw [h] at h'; exact absurd h' (by unfold isD; decide)
    rw [List.map_cons, List.cons_append, run_good US _ _ n acc hne (by rw [hL]) (by simp at hl; omega), hL]
    rw [ih cs (n + 1) (acc ++ [p]) hv' (by simp at hl ⊢; omega)]
    simp only [List.length_cons, List.append_assoc, List.singleton_append]
    rw [show n + 1 + l.length = n + (l.length + 1) by omega]
end Go.Proofs.YtnjojdmmalmhaaaGreatDoor.Rt
namespace Go.Proofs.YtnjojdmmalmhaaaGreatDoor.Un
open Go.ChangeShapes Go.WideShapes Go.RowKit Wo
set_option linter.unusedVariables false
/-- the table of the powers of ten, as it is laid -/
def Pows (w : World) : Prop := ∀ i : Nat, i ≤ 6 → w.cell? ⟨0, i, none⟩ = some (.int .i64 (10 ^ i))
theorem pows_of {W : World} (h : laidMetH Tryz.prog [("shapesearch/unit.powers", Rows.laid_shapesearch_unit_powers)] W) : Pows W := by
  rw [MakeChecks.laidMetH_plain _ _ _ (by kernel_rfl)] at h
  have t : Lib.TabIs Tryz.prog W "shapesearch/unit.powers" .i64 [1, 10, 100, 1000, 10000, 100000, 1000000] :=
    Lib.tabIs_of_head (g := 0) (t := 171) (e := 3) (n := 7) (by kernel_rfl) (by kernel_rfl) Tryz.underlying171 Tryz.underlying3 (by kernel_rfl) (by kernel_rfl) h
  intro i hi
  have := t.cell (g := 0) (by kernel_rfl) i (by simp; omega)
  rw [this]
  match i, hi with
  | 0, _ => rfl
  | 1, _ => rfl
  | 2, _ => rfl
  | 3, _ => rfl
  | 4, _ => rfl
  | 5, _ => rfl
  | 6, _ => rfl
theorem Pows.bel {w w' : World} (h : Pows w) (hb : Bel w w') : Pows w' := fun i hi => hb.kp (h i hi)
theorem parse_any (s : ByteArray) (body : ByteArray) (m : Bool) (hs : body.size ≤ 4611686018427387904) (h1 : (⟨(Lib.trimPrefix s.data.toList [45]).toArray⟩ : ByteArray) = body) (h2 : Lib.hasPrefix s.data.toList [45] = m) (w : World) :
    Calls Tryz.prog 79 #[.string s] w fun e w' => e = .returned (prs (rn body.data.toList) m) ∧ Bel w w' :=
  parse_core s body m hs w fun w => (Tryz.strings_CutPrefix s ⟨#[45]⟩ w).mono fun e w' ⟨he, hw⟩ => ⟨by rw [he, ← h1, ← h2], hw.symm⟩
theorem parse_ex (w : World) : Calls Tryz.prog 79 #[.string ⟨#[45, 49, 50, 46, 53, 48]⟩] w fun e w' => e = .returned (.tuple #[.agg #[.int .i64 (-1250), .int .i64 2], .int .i64 0]) ∧ Bel w w' :=
  (parse_any ⟨#[45, 49, 50, 46, 53, 48]⟩ ⟨#[49, 50, 46, 53, 48]⟩ true (by decide) (by rfl) (by rfl) w).mono fun e w' ⟨he, hw⟩ => ⟨by rw [he]; rfl, hw⟩
theorem low_lit {a : Array UInt8} (h1 : 1 ≤ a.size) (h2 : a.size ≤ 12) (h3 : ∀ c ∈ a.toList, 97 ≤ c.toNat ∧ c.toNat ≤ 122) : Low ⟨a⟩ :=
  ⟨h1, h2, fun i h => h3 _ (by show a[i] ∈ a.toList; simp)⟩
theorem low_raw : Low ⟨#[114, 97, 119]⟩ := low_lit (by decide) (by decide) (by decide)
theorem low_f : Low ⟨#[102]⟩ := low_lit (by decide) (by decide) (by decide)
/-- Convert, with the table -/
theorem conv_as (x : Int) (p : Nat) (s : ByteArray) (m a d : Int) (R : Value) (x1 : -1000000000 ≤ x) (x2 : x ≤ 1000000000) (hp : p ≤ 6) (hs : Low s) (m1 : 1 ≤ m) (m2 : m ≤ 1000000) (a1 : -1000000000 ≤ a) (a2 : a ≤ 1000000000) (d1 : 1 ≤ d) (d2 : d ≤ 1000000)
    (hR : cvt (x * m + a * 10 ^ p) (d * 10 ^ p) = R) (w : World) (hw : Pows w) :
    Calls Tryz.prog 81 #[.agg #[.int .i64 x, .int .i64 (p : Int)], .agg #[.string s, .int .i64 m, .int .i64 a, .int .i64 d]] w fun e w' => e = .returned R ∧ Bel w w' := by
  have h1 : (1 : Int) ≤ 10 ^ p ∧ (10 : Int) ^ p ≤ 1000000 := by
    match p, hp with
    | 0, _ => decide
    | 1, _ => decide
    | 2, _ => decide
    | 3, _ => decide
    | 4, _ => decide
    | 5, _ => decide
    | 6, _ => decide
  have := convert_any x p (10 ^ p) s m a d x1 x2 hp h1.1 h1.2 hs m1 m2 a1 a2 d1 d2 w (hw p hp)
  rwa [hR] at this
theorem conv_25 (w : World) (hw : Pows w) : Calls Tryz.prog 81 #[.agg #[.int .i64 (-25), .int .i64 1], .agg #[.string ⟨#[114, 97, 119]⟩, .int .i64 1, .int .i64 0, .int .i64 1]] w fun e w' => e = .returned (.tuple #[.int .i64 (-2), .int .i64 0]) ∧ Bel w w' :=
  conv_as (-25) 1 _ 1 0 1 _ (by decide) (by decide) (by decide) low_raw (by decide) (by decide) (by decide) (by decide) (by decide) (by decide) (by rfl) w hw
theorem conv_366 (w : World) (hw : Pows w) : Calls Tryz.prog 81 #[.agg #[.int .i64 366, .int .i64 1], .agg #[.string ⟨#[102]⟩, .int .i64 9, .int .i64 160, .int .i64 5]] w fun e w' => e = .returned (.tuple #[.int .i64 98, .int .i64 0]) ∧ Bel w w' :=
  conv_as 366 1 _ 9 160 5 _ (by decide) (by decide) (by decide) low_f (by decide) (by decide) (by decide) (by decide) (by decide) (by decide) (by rfl) w hw
end Go.Proofs.YtnjojdmmalmhaaaGreatDoor.Un
namespace Go.Proofs.YtnjojdmmalmhaaaGreatDoor.Rt
open Go.ChangeShapes Go.WideShapes Go.RowKit Wo Un Rg
open Rm (Rp tm vl)
set_option linter.unusedVariables false
theorem ba_of (x : ByteArray) (l : List UInt8) (h : x.data.toList = l) : x = ⟨l.toArray⟩ := by
  subst h
  exact (Lib.mk_data x).symm
/-- strings.Cut at a line feed -/
def cut10 (l : List UInt8) : List UInt8 × List UInt8 × Bool := if 0 ≤ Lib.indexByte l 10 then (l.take (Lib.indexByte l 10).toNat, l.drop ((Lib.indexByte l 10).toNat + 1), true) else (l, [], false)
set_option maxHeartbeats 2000000 in
theorem scut10 (s : ByteArray) (hs : s.size ≤ 281474976710656) (w : World) : Calls Tryz.prog 76 #[.string s, .string ⟨#[10]⟩] w fun e w' =>
    e = .returned (.tuple #[.string ⟨(cut10 s.data.toList).1.toArray⟩, .string ⟨(cut10 s.data.toList).2.1.toArray⟩, .bool (cut10 s.data.toList).2.2]) ∧ Bel w w' := by
  obtain ⟨v, hv⟩ : ∃ v, Lib.indexByte s.data.toList 10 = v := ⟨_, rfl⟩
  have HI : Hid (∀ W, Calls Tryz.prog 88 #[.string s, .string ⟨#[10]⟩] W fun e w' => e = .returned (.int .i64 v) ∧ w' = W) := fun W => by
    have := Tryz.stringslite_Index_one s 10 W
    rw [hv] at this
    exact this
  have hge := Lib.indexByte_ge s.data.toList 10
  rw [hv] at hge
  rcases Int.lt_or_le v 0 with h0 | h0
  · have e : v = -1 := by omega
    subst e
    have HC : Hid (cut10 s.data.toList = (s.data.toList, [], false)) := by
      unfold cut10; rw [hv]; rfl
    clear hv hge h0
    go_enter Tryz.func76, Tryz.ntmps76
    go_wp2_with fail
    go_at_call 88
    refine (HI.out _).mono ?_
    rintro e w1 ⟨rfl, rfl⟩
    go_wp2
    exact bodyPost_ret (v := .tuple #[.string s, .string ⟨#[]⟩, .bool false]) (by simp [results, Tryz.results76, go_sem]) rfl ⟨by rw [HC.out, Lib.mk_data], Bel.rf⟩
  · obtain ⟨i, rfl⟩ := Int.eq_ofNat_of_zero_le h0
    have hi := (Lib.indexByte_some hv).1
    have hlt : i < s.size := by
      rw [Lib.size_eq]
      exact (List.getElem?_eq_some_iff.1 hi).1
    have b0 : (0 : Int) ≤ (i : Int) := by omega
    have b1 : (i : Int) ≤ (s.size : Int) := by omega
    have b2 : (i : Int) + 1 ≤ (s.size : Int) := by omega
    have b3 : (s.size : Int) ≤ 281474976710656 := by omega
    have b4 : ((i : Int) + 1).toNat = i + 1 := by omega
    have HC : Hid (cut10 s.data.toList = ((s.extract 0 i).data.toList, (s.extract (i + 1) s.size).data.toList, true)) := by
      unfold cut10
      rw [hv, if_pos h0, Int.toNat_natCast, Lib.extract_data, Lib.extract_to_end, List.drop_zero, Nat.sub_zero]; exact Lib.hid rfl
    clear hv hge h0 hi
    go_enter Tryz.func76, Tryz.ntmps76
    go_wp2_with fail
    go_at_call 88
    refine (HI.out _).mono ?_
    rintro e w1 ⟨rfl, rfl⟩
    go_wp2
    go_quiet (fail)
    go_wp2
    exact bodyPost_ret (v := .tuple #[.string (s.extract 0 i), .string (s.extract (i + 1) s.size), .bool true]) (by simp [results, Tryz.results76, go_sem]) rfl ⟨by rw [HC.out, Lib.mk_data, Lib.mk_data], Bel.rf.drwN _⟩
theorem cut10_any (s : ByteArray) (hs : s.size ≤ 281474976710656) (w : World) : Calls Tryz.prog 58 #[.string s, .string ⟨#[10]⟩] w fun e w' =>
    e = .returned (.tuple #[.string ⟨(cut10 s.data.toList).1.toArray⟩, .string ⟨(cut10 s.data.toList).2.1.toArray⟩, .bool (cut10 s.data.toList).2.2]) ∧ Bel w w' := by
  have H := Lib.hid (scut10 s hs)
  generalize cut10 s.data.toList = c at H ⊢
  obtain ⟨c1, c2, c3⟩ := c
  go_enter Tryz.func58, Tryz.ntmps58
  go_wp2_with fail
  go_at_call 76
  refine (H.out _).mono ?_
  rintro e w1 ⟨rfl, hb⟩
  go_wp2
  exact bodyPost_ret (v := .tuple #[.string ⟨c1.toArray⟩, .string ⟨c2.toArray⟩, .bool c3]) (by simp [results, Tryz.results58, go_sem]) rfl ⟨rfl, hb⟩

theorem cut10_is (l : List UInt8) : (cut10 l).1 = (cutN l).1 ∧ (cut10 l).2.1 = (cutN l).2 := by
  unfold cut10 cutN
  split
  · exact ⟨rfl, rfl⟩
  · exact ⟨rfl, rfl⟩
theorem cutN_any (s : ByteArray) (hs : s.size ≤ 281474976710656) : ∃ b : Bool, ∀ w, Calls Tryz.prog 58 #[.string s, .string ⟨#[10]⟩] w fun e w' =>
    e = .returned (.tuple #[.string ⟨(cutN s.data.toList).1.toArray⟩, .string ⟨(cutN s.data.toList).2.toArray⟩, .bool b]) ∧ Bel w w' := by
  refine ⟨(cut10 s.data.toList).2.2, fun w => ?_⟩
  have := cut10_any s hs w
  rw [(cut10_is _).1, (cut10_is _).2] at this
  exact this
/-- strings.Split at a blank -/
def wds (s : ByteArray) : List ByteArray := Lib.splitB ⟨#[32]⟩ 0 (Lib.countB s ⟨#[32]⟩) s
theorem wds_data (s : ByteArray) : (wds s).map (·.data.toList) = Lib.split s.data.toList [32] := Lib.splitB_data _ _ _ _
def Spl (s : ByteArray) (w : World) (e : Ending) (w' : World) : Prop := e = .returned (.slice (some ⟨w.heap.size, 0, none⟩) (wds s).length (wds s).length) ∧ w' = w.alloc (.cells ((wds s).map Value.string).toArray 9)
set_option maxHeartbeats 1000000 in
theorem gsplit (s : ByteArray) (hs : s.size < 4294967281) (w : World) : Calls Tryz.prog 89 #[.string s, .string ⟨#[32]⟩, .int .i64 0, .int .i64 (-1)] w (Spl s w) := by
  have hlen := Lib.splitB_all ⟨#[32]⟩ (by decide) 0 _ s rfl
  have hle := Lib.countB_le ⟨#[32]⟩ (by decide) s.size s (Nat.le_refl _)
  have c := Any.strings_genSplit_core Tryz.lays221 (by kernel_rfl) s ⟨#[32]⟩ 0 (-1) (Lib.countB s ⟨#[32]⟩ + 1) w hs (by decide) (by decide)
    (fun x c hx => by
      have h := Tryz.strings_Index_one x 32 (w.alloc (.cells c 9))
      refine h.mono ?_
      rintro e w' ⟨he, hw⟩
      refine ⟨?_, hw⟩
      rw [he]
      show Ending.returned (Value.int .i64 (Lib.indexByte x.data.toList 32)) = Ending.returned (Value.int .i64 (Lib.index x.data.toList [32]))
      rw [Lib.index_one])
    (by
      refine (Tryz.strings_Count_one s 32 w).mono ?_
      rintro e w' ⟨he, hw⟩
      refine ⟨?_, hw⟩
      rw [he]
      show _ = Ending.returned (Value.int .i64 ((Lib.count s.data.toList [32] : Nat) : Int))
      rw [Lib.count_one]
      rfl)
    (by decide) (by decide) (by rw [if_pos (by decide)]; omega)
  rw [Nat.add_sub_cancel, hlen] at c
  refine c.mono ?_
  rintro e w' ⟨he, hw⟩
  unfold Spl wds
  refine ⟨?_, ?_⟩
  · rw [he, hlen]
  · have e2 : Lib.cellsOf (Lib.splitB ⟨#[32]⟩ 0 (Lib.countB s ⟨#[32]⟩) s) (Lib.countB s ⟨#[32]⟩ + 1) = ((Lib.splitB ⟨#[32]⟩ 0 (Lib.countB s ⟨#[32]⟩) s).map Value.string).toArray := by rw [← hlen]; exact Lib.cellsOf_full _
    rw [hw, e2]; rfl
theorem split_any (s : ByteArray) (hs : s.size < 4294967281) (w : World) : Calls Tryz.prog 77 #[.string s, .string ⟨#[32]⟩] w (Spl s w) := by
  have H := Lib.hid (gsplit s hs)
  go_enter Tryz.func77, Tryz.ntmps77
  go_wp2_with fail
  go_at_call 89
  refine (H.out _).mono ?_
  rintro e w1 ⟨rfl, rfl⟩
  go_wp2
  go_ret
  exact ⟨rfl, rfl⟩
/-- strings.Trim of digits -/
def digs : ByteArray := ⟨#[48, 49, 50, 51, 52, 53, 54, 55, 56, 57]⟩
theorem trim_any (s : ByteArray) (hs : s.size ≤ 9223372036854775807) (w : World) : Calls Tryz.prog 90 #[.string s, .string ⟨#[48, 49, 50, 51, 52, 53, 54, 55, 56, 57]⟩] w fun e w' =>
    e = .returned (.string ⟨(Lib.trimS s.data.toList [48, 49, 50, 51, 52, 53, 54, 55, 56, 57]).toArray⟩) ∧ Bel w w' :=
  Any.strings_Trim_laid Tryz.lays160 (by kernel_rfl) s ⟨#[48, 49, 50, 51, 52, 53, 54, 55, 56, 57]⟩ w hs (by decide) (ascii_of_all (by decide))
end Go.Proofs.YtnjojdmmalmhaaaGreatDoor.Rt
namespace Go.Proofs.YtnjojdmmalmhaaaGreatDoor.Rt
open Go.ChangeShapes Go.WideShapes Go.RowKit Wo Un Rg
open Rm (Rp tm vl)
set_option linter.unusedVariables false
def dg : List UInt8 := [48, 49, 50, 51, 52, 53, 54, 55, 56, 57]
set_option maxRecDepth 100000 in
theorem dg_all : ∀ n : Fin 256, dg.contains (UInt8.ofNat n.val) = (decide (48 ≤ (UInt8.ofNat n.val).toNat) && decide ((UInt8.ofNat n.val).toNat ≤ 57)) := by decide
theorem dg_is (c : UInt8) : dg.contains c = (decide (48 ≤ c.toNat) && decide (c.toNat ≤ 57)) := by
  have h := dg_all ⟨c.toNat, UInt8.toNat_lt c⟩
  rwa [show UInt8.ofNat c.toNat = c from UInt8.ofNat_toNat] at h
theorem dw_nil (p : UInt8 → Bool) : ∀ l : List UInt8, l.dropWhile p = [] ↔ l.all p = true
  | [] => by simp
  | c :: l => by
    have ih := dw_nil p l
    rw [List.dropWhile_cons, List.all_cons]
    cases hc : p c
    · simp
    · simpa using ih
theorem trim_nil (l : List UInt8) : Lib.trimS l dg = [] ↔ l.all (fun c => decide (48 ≤ c.toNat) && decide (c.toNat ≤ 57)) = true := by
  have e : (fun c => decide (48 ≤ c.toNat) && decide (c.toNat ≤ 57)) = (fun c : UInt8 => dg.contains c) := by funext c; exact (dg_is c).symm
  rw [e]
  unfold Lib.trimS Lib.trimLeftS Lib.trimRightS
  constructor
  · intro h
    have h1 := (dw_nil _ _).1 h
    rw [List.all_reverse] at h1
    -- what is left begins (from behind) with no digit
    rcases hq : l.reverse.dropWhile (dg.contains ·) with _ | ⟨c, r⟩
    · have := (dw_nil _ _).1 hq
      rwa [List.all_reverse] at this
    · exfalso
      have hc : dg.contains c = false := by
        have := List.head?_dropWhile_not (dg.contains ·) l.reverse
        rw [hq] at this
        simpa using this
      rw [hq, List.all_cons, hc] at h1
      simp at h1
  · intro h
    have h1 : l.reverse.dropWhile (dg.contains ·) = [] := (dw_nil _ _).2 (by rw [List.all_reverse]; exact h)
    rw [h1]; rfl
theorem tr_emp (l : List UInt8) : (Lib.trimS l [48, 49, 50, 51, 52, 53, 54, 55, 56, 57]).isEmpty = l.all (fun c => decide (48 ≤ c.toNat) && decide (c.toNat ≤ 57)) := by
  rw [Bool.eq_iff_iff, List.isEmpty_iff]
  exact trim_nil l
theorem isT_in (l : List UInt8) (h1 : 1 ≤ l.length) (h2 : l.length ≤ 13) : isT l = (!(l.head? == some 48 && l != [48]) && (Lib.trimS l [48, 49, 50, 51, 52, 53, 54, 55, 56, 57]).isEmpty) := by
  unfold isT
  rw [decide_eq_true h1, decide_eq_true h2, tr_emp, Bool.true_and, Bool.true_and]
set_option maxHeartbeats 2000000 in
theorem isTime_any (s : ByteArray) (hs : s.size ≤ 20000) (w : World) : Calls Tryz.prog 78 #[.string s] w fun e w' => e = .returned (.bool (isT s.data.toList)) ∧ Bel w w' := by
  have hle : s.data.toList.length = s.size := (Lib.size_eq s).symm
  have HT := Lib.hid (trim_any s (by omega))
  obtain ⟨r, hr⟩ : ∃ r, isT s.data.toList = r := ⟨_, rfl⟩
  rw [hr]
  have hu := hr
  unfold isT at hu
  rw [hle] at hu
  rcases Nat.lt_or_ge s.size 1 with h0 | h0
  · have hF : r = false := by rw [decide_eq_false (by omega)] at hu; simpa using hu.symm
    subst hF
    have s1 : (s.size : Int) < 1 := by omega
    clear hu hr hle HT
    go_enter Tryz.func78, Tryz.ntmps78
    go_wp2
    go_ret
    exact ⟨rfl, Bel.rf⟩
  · rcases Nat.lt_or_ge 13 s.size with h13 | h13
    · have hF : r = false := by rw [decide_eq_false (by omega : ¬ s.size ≤ 13)] at hu; simpa using hu.symm
      subst hF
      have s1 : ¬ (s.size : Int) < 1 := by omega
      have s2 : (13 : Int) < (s.size : Int) := by omega
      clear hu hr hle HT
      go_enter Tryz.func78, Tryz.ntmps78
      go_wp2
      go_ret
      exact ⟨rfl, Bel.rf⟩
    · have s1 : ¬ (s.size : Int) < 1 := by omega
      have s2 : ¬ (13 : Int) < (s.size : Int) := by omega
      have s3 : (0 : Int) < (s.size : Int) := by omega
      obtain ⟨c, rest, hl⟩ : ∃ c rest, s.data.toList = c :: rest := by
        rcases hq : s.data.toList with _ | ⟨c, rest⟩
        · rw [hq] at hle; simp at hle; omega
        · exact ⟨c, rest, rfl⟩
      have h00 : s[0] = c := by
        have : s.data.toList[0]? = some c := by rw [hl]; rfl
        have e2 : s.data.toList[0]? = some s[0] := by rw [Array.getElem?_toList]; exact Array.getElem?_eq_getElem _
        rw [e2] at this
        exact Option.some.inj this
      have hin := isT_in s.data.toList (by omega) (by omega)
      rw [hr, hl] at hin
      have htl : s.toList = c :: rest := by rw [Lib.toList_data]; exact hl
      rcases Classical.em (c.toNat = 48) with hc | hc
      · have c1 : ((c.toNat : Int) == 48) = true := by simpa using (by omega : (c.toNat : Int) = 48)
        have c2 : (c.toNat : Int) = 48 := by omega
        have c3 : c = 48 := u8_eq hc
        rcases Classical.em (rest = []) with hre | hre
        · have kq : (s.toList == [48]) = true := by rw [htl, c3, hre]; rfl
          have HR : Hid (r = (Lib.trimS (c :: rest) [48, 49, 50, 51, 52, 53, 54, 55, 56, 57]).isEmpty) := by
            unfold Hid
            rw [hin, c3, hre]; rfl
          clear hu hr hin htl c3 hre
          go_enter Tryz.func78, Tryz.ntmps78
          go_wp2_with fail
          go_at_call 90
          refine (HT.out _).mono ?_
          rintro e w1 ⟨rfl, hb⟩
          go_wp2
          exact bodyPost_ret (v := .bool r) (by rw [HR.out]; simp [results, Tryz.results78, go_sem]) rfl ⟨rfl, hb⟩
        · have kq : (s.toList == [48]) = false := by
            rw [htl, c3]
            simpa using hre
          have hF : r = false := by
            have : ((48 :: rest) != ([48] : List UInt8)) = true := by simpa using hre
            rw [hin, c3, this]; rfl
          subst hF
          clear hu hr hin htl c3 HT
          go_enter Tryz.func78, Tryz.ntmps78
          go_wp2
          go_ret
          exact ⟨rfl, Bel.rf⟩
      · have c1 : ((c.toNat : Int) == 48) = false := by simpa using (by omega : ¬ (c.toNat : Int) = 48)
        have c2 : ¬ (c.toNat : Int) = 48 := by omega
        have HR : Hid (r = (Lib.trimS (c :: rest) [48, 49, 50, 51, 52, 53, 54, 55, 56, 57]).isEmpty) := by
          unfold Hid
          have : (some c == some (48 : UInt8)) = false := by
            simp
            intro e; rw [e] at hc; exact hc rfl
          rw [hin, List.head?_cons, this]; rfl
        clear hu hr hin htl
        go_enter Tryz.func78, Tryz.ntmps78
        go_wp2_with fail
        go_at_call 90
        refine (HT.out _).mono ?_
        rintro e w1 ⟨rfl, hb⟩
        go_wp2
        exact bodyPost_ret (v := .bool r) (by rw [HR.out]; simp [results, Tryz.results78, go_sem]) rfl ⟨rfl, hb⟩
end Go.Proofs.YtnjojdmmalmhaaaGreatDoor.Rt
namespace Go.Proofs.YtnjojdmmalmhaaaGreatDoor.Rt
open Go.ChangeShapes Go.WideShapes Go.RowKit Wo Un Rg Go.MapKept
open Rm (Rp tm vl)
set_option linter.unusedVariables false
/-- a unit as a value -/
def uv (u : Ut) : Value := .agg #[.string ⟨u.nm.toArray⟩, .int .i64 u.mul, .int .i64 u.add, .int .i64 u.div]
def ents : List Ut → Nat → List MapEntry
  | [], _ => []
  | u :: us, k => ⟨.string ⟨u.nm.toArray⟩, uv u, k⟩ :: ents us (k + 1)
/-- the map of the units -/
def Mp (w : World) (r : Nat) (US : List Ut) : Prop := w.heap[r]? = some (.map (ents US 0).toArray US.length)
theorem Mp.lt {w : World} {r : Nat} {US : List Ut} (h : Mp w r US) : r < w.heap.size := by
  rcases Nat.lt_or_ge r w.heap.size with h1 | h1
  · exact h1
  · unfold Mp at h; rw [Array.getElem?_eq_none h1] at h; cases h
theorem Mp.bel {w w' : World} {r : Nat} {US : List Ut} (h : Mp w r US) (hb : Bel w w') : Mp w' r US := (Below.block hb r h.lt).trans h
theorem ba_mk (l : List UInt8) : (⟨l.toArray⟩ : ByteArray).data.toList = l := rfl
theorem ba_beq (a b : List UInt8) : ((⟨a.toArray⟩ : ByteArray) == ⟨b.toArray⟩) = (a == b) := by
  rw [Bool.eq_iff_iff, bytes_beq, beq_iff_eq]
  constructor
  · intro h
    have := congrArg (fun x : ByteArray => x.data.toList) h
    simpa using this
  · intro h; rw [h]
theorem find_ents (n : List UInt8) : ∀ (US : List Ut) (k i : Nat), (look US n = none → Instr.findNow .string (.string ⟨n.toArray⟩) (ents US k) i = some none) ∧
    (∀ u, look US n = some u → ∃ j, Instr.findNow .string (.string ⟨n.toArray⟩) (ents US k) i = some (some (j, uv u)))
  | [], k, i => ⟨fun _ => rfl, fun u h => by cases h⟩
  | u :: us, k, i => by
    have ih := find_ents n us (k + 1) (i + 1)
    have hs : Instr.sameNow .string (.string ⟨n.toArray⟩) (.string ⟨u.nm.toArray⟩) = some (n == u.nm) := by
      show some ((⟨n.toArray⟩ : ByteArray) == ⟨u.nm.toArray⟩) = _
      rw [ba_beq]
    have hc : (u.nm == n) = (n == u.nm) := by rw [Bool.eq_iff_iff, beq_iff_eq, beq_iff_eq]; exact eq_comm
    have hf : Instr.findNow .string (.string ⟨n.toArray⟩) (ents (u :: us) k) i = if (n == u.nm) = true then some (some (i, uv u)) else Instr.findNow .string (.string ⟨n.toArray⟩) (ents us (k + 1)) (i + 1) := by
      show (match Instr.sameNow .string (.string ⟨n.toArray⟩) (.string ⟨u.nm.toArray⟩) with | some true => some (some (i, uv u)) | some false => Instr.findNow .string (.string ⟨n.toArray⟩) (ents us (k + 1)) (i + 1) | none => none) = _
      rw [hs]
      cases (n == u.nm) <;> rfl
    unfold look at ih ⊢
    rw [List.find?_cons, hc, hf]
    cases (n == u.nm)
    · exact ih
    · exact ⟨fun h => (by cases h), fun v h => ⟨i, by cases h; rfl⟩⟩
theorem run_lookS {P : Program} {T K E : TypeId} (ht : P.underlying T = some (.map K E)) (hkk : P.underlying K = some .string) (w : World) (r clock : Nat) (es : Array MapEntry) (s : ByteArray) (i : Nat) (u : Value) (hb : w.heap[r]? = some (.map es clock)) (hn : Instr.findNow .string (.string s) es.toList 0 = some (some (i, u))) :
    (Instr.lookup T (.map (some r)) (.string s) true).run P w = .ok (.tuple #[u, .bool true]) w := by
  unfold Instr.lookup
  simp [Sem.run_bind, run_underlying ht, Result.andThen, Go.MapKept.run_getObj_map hb, run_checkKey hkk (show IsKey .string (.string s) from trivial), run_findKey hkk hn]
theorem run_missS {P : Program} {T K E : TypeId} (ht : P.underlying T = some (.map K E)) (hkk : P.underlying K = some .string) (w : World) (r clock : Nat) (es : Array MapEntry) (s : ByteArray) (z : Value) (hz : (zeroValue E).run P w = .ok z w) (hb : w.heap[r]? = some (.map es clock)) (hn : Instr.findNow .string (.string s) es.toList 0 = some none) :
    (Instr.lookup T (.map (some r)) (.string s) true).run P w = .ok (.tuple #[z, .bool false]) w := by
  unfold Instr.lookup
  simp [Sem.run_bind, run_underlying ht, Result.andThen, Go.MapKept.run_getObj_map hb, run_checkKey hkk (show IsKey .string (.string s) from trivial), run_findKey hkk hn, hz]
theorem zero_unit (w : World) : (zeroValue 82).run Tryz.prog w = .ok (.agg #[.string ⟨#[]⟩, .int .i64 0, .int .i64 0, .int .i64 0]) w := by
  simp [zeroValue, go_sem]
  rfl
theorem look_hit {w : World} {r : Nat} {US : List Ut} (h : Mp w r US) (s : ByteArray) (u : Ut) (hu : look US s.data.toList = some u) : (Instr.lookup 112 (.map (some r)) (.string s) true).run Tryz.prog w = .ok (.tuple #[uv u, .bool true]) w := by
  obtain ⟨j, hj⟩ := (find_ents s.data.toList US 0 0).2 u hu
  rw [Lib.mk_data] at hj
  exact run_lookS Tryz.underlying112 Tryz.underlying9 w r _ _ s j _ h hj
theorem look_miss {w : World} {r : Nat} {US : List Ut} (h : Mp w r US) (s : ByteArray) (hu : look US s.data.toList = none) : (Instr.lookup 112 (.map (some r)) (.string s) true).run Tryz.prog w = .ok (.tuple #[.agg #[.string ⟨#[]⟩, .int .i64 0, .int .i64 0, .int .i64 0], .bool false]) w := by
  have hj := (find_ents s.data.toList US 0 0).1 hu
  rw [Lib.mk_data] at hj
  exact run_missS Tryz.underlying112 Tryz.underlying9 w r _ _ s _ (zero_unit w) h hj
/-- a valid unit -/
def GoodU (u : Ut) : Prop := Low ⟨u.nm.toArray⟩ ∧ 1 ≤ u.mul ∧ u.mul ≤ 1000000 ∧ -1000000000 ≤ u.add ∧ u.add ≤ 1000000000 ∧ 1 ≤ u.div ∧ u.div ≤ 1000000
end Go.Proofs.YtnjojdmmalmhaaaGreatDoor.Rt
namespace Go.Proofs.YtnjojdmmalmhaaaGreatDoor.Rt
open Go.ChangeShapes Go.WideShapes Go.RowKit Wo Un Rg Go.MapKept
open Rm (Rp tm vl)
set_option linter.unusedVariables false
def LineR (US : List Ut) (s : ByteArray) (w : World) (e : Ending) (w' : World) : Prop := e = .returned (.tuple #[.agg #[.int .i64 (lineS US s.data.toList).1.1, .int .i64 (lineS US s.data.toList).1.2], .int .i64 (lineS US s.data.toList).2]) ∧ Bel w w'
theorem lineR_of {US : List Ut} {s : ByteArray} {w : World} {t v er : Int} (h : lineS US s.data.toList = ((t, v), er)) {e : Ending} {w' : World} (he : e = .returned (.tuple #[.agg #[.int .i64 t, .int .i64 v], .int .i64 er])) (hb : Bel w w') : LineR US s w e w' := by
  unfold LineR; rw [h]; exact ⟨he, hb⟩
theorem line_ne3 (US : List Ut) (c : List UInt8) (h : (Lib.split c [32]).length ≠ 3) : lineS US c = ((0, 0), 3) := by
  unfold lineS
  split
  · rename_i a b n hq
    rw [hq] at h; exact absurd rfl h
  · rfl
set_option maxHeartbeats 2000000 in
theorem line_short (s : ByteArray) (hs : s.size ≤ 20000) (US : List Ut) (h3 : (wds s).length ≠ 3) (r : Nat) (w : World) :
    Calls Tryz.prog 59 #[.string s, .map (some r)] w (LineR US s w) := by
  have HS := Lib.hid (split_any s (by omega))
  have HR := Lib.hid (line_ne3 US s.data.toList (by rw [← wds_data, List.length_map]; exact h3))
  have kn : (((wds s).length : Int) != 3) = true := by simp; omega
  have kn2 : ¬ ((wds s).length : Int) = 3 := by omega
  go_enter Tryz.func59, Tryz.ntmps59
  go_wp2_with fail
  go_at_call 77
  refine (HS.out _).mono ?_
  rintro e w1 ⟨rfl, rfl⟩
  go_wp2
  exact bodyPost_ret (v := .tuple #[.agg #[.int .i64 0, .int .i64 0], .int .i64 3]) (by simp [results, Tryz.results59, go_sem]) rfl (lineR_of HR.out rfl (by repeat (first | exact Bel.rf | exact hb | (with_reducible refine Bel.drwN ?_ _) | (with_reducible refine Bel.drw ?_) | (with_reducible refine Bel.al ?_ _) | ((with_reducible refine Bel.st2 ?_ ?_ _); (show _ ≤ _); (simp only []; omega)) | refine Bel.tr ?_ (by assumption))))
-- GEN
theorem results_ctR {fn : Func} {p u : Tmp} (h : fn.results = #[.cell p 57, .tmp u]) (tmps : Array Value) (w : World) (g : Nat) (a b : Value)
    (hp : tmps.getD p undef = .pointer (some ⟨g, 0, none⟩)) (hg : Bk w g 57 #[a, b]) :
    (results fn tmps).run Tryz.prog w = .ok (.tuple #[.agg #[a, b], tmps.getD u undef]) w := by
  have hp' : tmps[p]?.getD undef = .pointer (some ⟨g, 0, none⟩) := by simpa using hp
  have hl := run_loadVar_row (P := Tryz.prog) w g 57 57 #[a, b] (0, 0) _ hg Tryz.underlying57 rfl (by kernel_rfl)
  simp [results, h, hp', asAddr, hl]
set_option maxHeartbeats 4000000 in
set_option maxRecDepth 100000 in
theorem line_en (s a b n : ByteArray) (hs : s.size ≤ 20000) (US : List Ut) (hW : wds s = [a, b, n]) (ha : a.size ≤ 20000) (hn : n.data.toList = []) (r : Nat) (w : World) (hr : lineS US s.data.toList = ((0, 0), 3)) :
    Calls Tryz.prog 59 #[.string s, .map (some r)] w (LineR US s w) := by
  have HS : Hid (∀ w, Calls Tryz.prog 77 #[.string s, .string ⟨#[32]⟩] w fun e w' => e = .returned (.slice (some ⟨w.heap.size, 0, none⟩) 3 3) ∧ w' = w.alloc (.cells #[.string a, .string b, .string n] 9)) := fun w => by
    have := split_any s (by omega) w
    unfold Spl at this
    rw [hW] at this
    exact this
  have HR := Lib.hid hr
  clear hr hW
  have e0 : n.toList = [] := by rw [Lib.toList_data]; exact hn
  have e1 : n.toList.isEmpty = true := by rw [e0]; rfl
  go_enter Tryz.func59, Tryz.ntmps59
  go_wp2_with fail
  go_at_call 77
  refine (HS.out _).mono ?_
  rintro e w1 ⟨rfl, rfl⟩
  go_wp2
  exact bodyPost_ret (v := .tuple #[.agg #[.int .i64 0, .int .i64 0], .int .i64 3]) (by simp [results, Tryz.results59, go_sem]) rfl (lineR_of HR.out rfl (by repeat (first | exact Bel.rf | exact hb | (with_reducible refine Bel.drwN ?_ _) | (with_reducible refine Bel.drw ?_) | (with_reducible refine Bel.al ?_ _) | ((with_reducible refine Bel.st2 ?_ ?_ _); (show _ ≤ _); (simp only []; omega)) | refine Bel.tr ?_ (by assumption))))
set_option maxHeartbeats 4000000 in
set_option maxRecDepth 100000 in
theorem line_nt (s a b n : ByteArray) (hs : s.size ≤ 20000) (US : List Ut) (hW : wds s = [a, b, n]) (ha : a.size ≤ 20000) (hn : n.data.toList ≠ []) (hT : isT a.data.toList = false) (r : Nat) (w : World) (hr : lineS US s.data.toList = ((0, 0), 3)) :
    Calls Tryz.prog 59 #[.string s, .map (some r)] w (LineR US s w) := by
  have HS : Hid (∀ w, Calls Tryz.prog 77 #[.string s, .string ⟨#[32]⟩] w fun e w' => e = .returned (.slice (some ⟨w.heap.size, 0, none⟩) 3 3) ∧ w' = w.alloc (.cells #[.string a, .string b, .string n] 9)) := fun w => by
    have := split_any s (by omega) w
    unfold Spl at this
    rw [hW] at this
    exact this
  have HR := Lib.hid hr
  clear hr hW
  have e0 : n.toList.isEmpty = false := by rw [Lib.toList_data]; cases hq : n.data.toList with | nil => exact absurd hq hn | cons c l => rfl
  have e1 : (n.toList == []) = false := by rw [Lib.toList_data]; cases hq : n.data.toList with | nil => exact absurd hq hn | cons c l => rfl
  have HI : Hid (∀ w, Calls Tryz.prog 78 #[.string a] w fun e w' => e = .returned (.bool false) ∧ Bel w w') := fun w => by have := isTime_any a ha w; rw [hT] at this; exact this
  go_enter Tryz.func59, Tryz.ntmps59
  go_wp2_with fail
  go_at_call 77
  refine (HS.out _).mono ?_
  rintro e w1 ⟨rfl, rfl⟩
  go_wp2_with fail
  go_at_call 78
  refine (HI.out _).mono ?_
  rintro e w2 ⟨rfl, hb⟩
  have kB : Bk w2 (w.heap.size + 1) 9 #[.string a, .string b, .string n] := Bk.bel (Bk.nq (w.alloc (.cells #[.int .i64 0, .int .i64 0] 57)) _ _ (by simp)) hb
  have kR : Bk w2 w.heap.size 57 #[.int .i64 0, .int .i64 0] := Bk.bel ((Bk.nw w 57 #[.int .i64 0, .int .i64 0]).al _) hb
  have hb2 : Bel w w2 := ((Bel.rf.al _).al _).tr hb
  have c0 : w2.cell? ⟨w.heap.size + 1, 0, none⟩ = some (.string a) := by rw [kB.cell]; rfl
  have c1 : w2.cell? ⟨w.heap.size + 1, 1, none⟩ = some (.string b) := by rw [kB.cell]; rfl
  have c2 : w2.cell? ⟨w.heap.size + 1, 2, none⟩ = some (.string n) := by rw [kB.cell]; rfl
  have r0 : w2.cell? ⟨w.heap.size, 0, none⟩ = some (.int .i64 0) := by rw [kR.cell]; rfl
  have r1 : w2.cell? ⟨w.heap.size, 1, none⟩ = some (.int .i64 0) := by rw [kR.cell]; rfl
  have f0 := kR.fr 0
  have f1 := kR.fr 1
  have lt1 := kR.lt
  have lt2 := kB.lt
  have g0 : ∀ o, (w2.alloc o).frozen? ⟨w.heap.size, 0, none⟩ = false := fun o => (kR.al o).fr 0
  have g1 : ∀ o, (w2.alloc o).frozen? ⟨w.heap.size, 1, none⟩ = false := fun o => (kR.al o).fr 1
  have HK := Lib.hid kR
  have HB2 := Lib.hid (And.intro kB hb2)
  go_wp2
  exact bodyPost_ret (v := .tuple #[.agg #[.int .i64 0, .int .i64 0], .int .i64 3]) (results_ctR Tryz.results59 _ _ w.heap.size (.int .i64 0) (.int .i64 0) rfl ((HK.out.st 0 _).st 1 _)) rfl (lineR_of HR.out rfl (by repeat (first | exact Bel.rf | exact hb | (with_reducible refine Bel.drwN ?_ _) | (with_reducible refine Bel.drw ?_) | (with_reducible refine Bel.al ?_ _) | ((with_reducible refine Bel.st2 ?_ ?_ _); (show _ ≤ _); (simp only []; omega)) | refine Bel.tr ?_ (by assumption))))
set_option maxHeartbeats 4000000 in
set_option maxRecDepth 100000 in
theorem line_pf (s a b n : ByteArray) (hs : s.size ≤ 20000) (US : List Ut) (hW : wds s = [a, b, n]) (ha : a.size ≤ 20000) (hn : n.data.toList ≠ []) (hT : isT a.data.toList = true) (hbs : (⟨(Lib.trimPrefix b.data.toList [45]).toArray⟩ : ByteArray).size ≤ 4611686018427387904) (X P er : Int) (hp : prs (rn (Lib.trimPrefix b.data.toList [45])) (Lib.hasPrefix b.data.toList [45]) = .tuple #[.agg #[.int .i64 X, .int .i64 P], .int .i64 er]) (her : er = 3) (r : Nat) (w : World) (hr : lineS US s.data.toList = ((0, 0), 3)) :
    Calls Tryz.prog 59 #[.string s, .map (some r)] w (LineR US s w) := by
  have HS : Hid (∀ w, Calls Tryz.prog 77 #[.string s, .string ⟨#[32]⟩] w fun e w' => e = .returned (.slice (some ⟨w.heap.size, 0, none⟩) 3 3) ∧ w' = w.alloc (.cells #[.string a, .string b, .string n] 9)) := fun w => by
    have := split_any s (by omega) w
    unfold Spl at this
    rw [hW] at this
    exact this
  have HR := Lib.hid hr
  clear hr hW
  have e0 : n.toList.isEmpty = false := by rw [Lib.toList_data]; cases hq : n.data.toList with | nil => exact absurd hq hn | cons c l => rfl
  have e1 : (n.toList == []) = false := by rw [Lib.toList_data]; cases hq : n.data.toList with | nil => exact absurd hq hn | cons c l => rfl
  have HI : Hid (∀ w, Calls Tryz.prog 78 #[.string a] w fun e w' => e = .returned (.bool true) ∧ Bel w w') := fun w => by have := isTime_any a ha w; rw [hT] at this; exact this
  have HP : Hid (∀ w, Calls Tryz.prog 79 #[.string b] w fun e w' => e = .returned (.tuple #[.agg #[.int .i64 X, .int .i64 P], .int .i64 er]) ∧ Bel w w') := fun w => by rw [← hp]; exact parse_any b ⟨(Lib.trimPrefix b.data.toList [45]).toArray⟩ (Lib.hasPrefix b.data.toList [45]) hbs rfl rfl w
  subst her
  go_enter Tryz.func59, Tryz.ntmps59
  go_wp2_with fail
  go_at_call 77
  refine (HS.out _).mono ?_
  rintro e w1 ⟨rfl, rfl⟩
  go_wp2_with fail
  go_at_call 78
  refine (HI.out _).mono ?_
  rintro e w2 ⟨rfl, hb⟩
  have kB : Bk w2 (w.heap.size + 1) 9 #[.string a, .string b, .string n] := Bk.bel (Bk.nq (w.alloc (.cells #[.int .i64 0, .int .i64 0] 57)) _ _ (by simp)) hb
  have kR : Bk w2 w.heap.size 57 #[.int .i64 0, .int .i64 0] := Bk.bel ((Bk.nw w 57 #[.int .i64 0, .int .i64 0]).al _) hb
  have hb2 : Bel w w2 := ((Bel.rf.al _).al _).tr hb
  have c0 : w2.cell? ⟨w.heap.size + 1, 0, none⟩ = some (.string a) := by rw [kB.cell]; rfl
  have c1 : w2.cell? ⟨w.heap.size + 1, 1, none⟩ = some (.string b) := by rw [kB.cell]; rfl
  have c2 : w2.cell? ⟨w.heap.size + 1, 2, none⟩ = some (.string n) := by rw [kB.cell]; rfl
  have r0 : w2.cell? ⟨w.heap.size, 0, none⟩ = some (.int .i64 0) := by rw [kR.cell]; rfl
  have r1 : w2.cell? ⟨w.heap.size, 1, none⟩ = some (.int .i64 0) := by rw [kR.cell]; rfl
  have f0 := kR.fr 0
  have f1 := kR.fr 1
  have lt1 := kR.lt
  have lt2 := kB.lt
  have g0 : ∀ o, (w2.alloc o).frozen? ⟨w.heap.size, 0, none⟩ = false := fun o => (kR.al o).fr 0
  have g1 : ∀ o, (w2.alloc o).frozen? ⟨w.heap.size, 1, none⟩ = false := fun o => (kR.al o).fr 1
  have HK := Lib.hid kR
  have HB2 := Lib.hid (And.intro kB hb2)
  go_wp2_with fail
  go_at_call 79
  refine (HP.out _).mono ?_
  rintro e w3 ⟨rfl, hb3⟩
  have kB3 := (HB2.out.1).bel hb3
  have kR3 := (HK.out).bel hb3
  have hbw3 := (HB2.out.2).tr hb3
  clear c0 c1 c2 r0 r1 f0 f1 HB2 HK
  clear lt1 lt2 g0 g1
  have c0 : w3.cell? ⟨w.heap.size + 1, 0, none⟩ = some (.string a) := by rw [kB3.cell]; rfl
  have c1 : w3.cell? ⟨w.heap.size + 1, 1, none⟩ = some (.string b) := by rw [kB3.cell]; rfl
  have c2 : w3.cell? ⟨w.heap.size + 1, 2, none⟩ = some (.string n) := by rw [kB3.cell]; rfl
  have r0 : w3.cell? ⟨w.heap.size, 0, none⟩ = some (.int .i64 0) := by rw [kR3.cell]; rfl
  have r1 : w3.cell? ⟨w.heap.size, 1, none⟩ = some (.int .i64 0) := by rw [kR3.cell]; rfl
  have f0 := kR3.fr 0
  have f1 := kR3.fr 1
  have lt1 := kR3.lt
  have lt2 := kB3.lt
  have g0 : ∀ o, (w3.alloc o).frozen? ⟨w.heap.size, 0, none⟩ = false := fun o => (kR3.al o).fr 0
  have g1 : ∀ o, (w3.alloc o).frozen? ⟨w.heap.size, 1, none⟩ = false := fun o => (kR3.al o).fr 1
  have HK := Lib.hid kR3
  have HB2 := Lib.hid (And.intro kB3 hbw3)
  go_wp2
  exact bodyPost_ret (v := .tuple #[.agg #[.int .i64 0, .int .i64 0], .int .i64 3]) (results_ctR Tryz.results59 _ _ w.heap.size (.int .i64 0) (.int .i64 0) rfl (((HK.out.st 0 _).st 1 _).al _)) rfl (lineR_of HR.out rfl (by repeat (first | exact Bel.rf | exact hb | (with_reducible refine Bel.drwN ?_ _) | (with_reducible refine Bel.drw ?_) | (with_reducible refine Bel.al ?_ _) | ((with_reducible refine Bel.st2 ?_ ?_ _); (show _ ≤ _); (simp only []; omega)) | refine Bel.tr ?_ (by assumption))))
set_option maxHeartbeats 4000000 in
set_option maxRecDepth 100000 in
theorem line_late (s a b n : ByteArray) (hs : s.size ≤ 20000) (US : List Ut) (hW : wds s = [a, b, n]) (ha : a.size ≤ 20000) (hn : n.data.toList ≠ []) (hT : isT a.data.toList = true) (hbs : (⟨(Lib.trimPrefix b.data.toList [45]).toArray⟩ : ByteArray).size ≤ 4611686018427387904) (X P er tv : Int) (hp : prs (rn (Lib.trimPrefix b.data.toList [45])) (Lib.hasPrefix b.data.toList [45]) = .tuple #[.agg #[.int .i64 X, .int .i64 P], .int .i64 er]) (HA : Hid (∀ w, Calls Tryz.prog 80 #[.string a] w fun e w' => e = .returned (.tuple #[.int .i64 tv, .nilIface]) ∧ Bel w w')) (her : er ≠ 3) (ht : 1099511627776 < tv) (r : Nat) (w : World) (hr : lineS US s.data.toList = ((0, 0), 1)) :
    Calls Tryz.prog 59 #[.string s, .map (some r)] w (LineR US s w) := by
  have HS : Hid (∀ w, Calls Tryz.prog 77 #[.string s, .string ⟨#[32]⟩] w fun e w' => e = .returned (.slice (some ⟨w.heap.size, 0, none⟩) 3 3) ∧ w' = w.alloc (.cells #[.string a, .string b, .string n] 9)) := fun w => by
    have := split_any s (by omega) w
    unfold Spl at this
    rw [hW] at this
    exact this
  have HR := Lib.hid hr
  clear hr hW
  have e0 : n.toList.isEmpty = false := by rw [Lib.toList_data]; cases hq : n.data.toList with | nil => exact absurd hq hn | cons c l => rfl
  have e1 : (n.toList == []) = false := by rw [Lib.toList_data]; cases hq : n.data.toList with | nil => exact absurd hq hn | cons c l => rfl
  have HI : Hid (∀ w, Calls Tryz.prog 78 #[.string a] w fun e w' => e = .returned (.bool true) ∧ Bel w w') := fun w => by have := isTime_any a ha w; rw [hT] at this; exact this
  have HP : Hid (∀ w, Calls Tryz.prog 79 #[.string b] w fun e w' => e = .returned (.tuple #[.agg #[.int .i64 X, .int .i64 P], .int .i64 er]) ∧ Bel w w') := fun w => by rw [← hp]; exact parse_any b ⟨(Lib.trimPrefix b.data.toList [45]).toArray⟩ (Lib.hasPrefix b.data.toList [45]) hbs rfl rfl w
  have k1 : (er == 3) = false := by simpa using her
  have k2 : ¬ er = 3 := her
  clear hp
  go_enter Tryz.func59, Tryz.ntmps59
  go_wp2_with fail
  go_at_call 77
  refine (HS.out _).mono ?_
  rintro e w1 ⟨rfl, rfl⟩
  go_wp2_with fail
  go_at_call 78
  refine (HI.out _).mono ?_
  rintro e w2 ⟨rfl, hb⟩
  have kB : Bk w2 (w.heap.size + 1) 9 #[.string a, .string b, .string n] := Bk.bel (Bk.nq (w.alloc (.cells #[.int .i64 0, .int .i64 0] 57)) _ _ (by simp)) hb
  have kR : Bk w2 w.heap.size 57 #[.int .i64 0, .int .i64 0] := Bk.bel ((Bk.nw w 57 #[.int .i64 0, .int .i64 0]).al _) hb
  have hb2 : Bel w w2 := ((Bel.rf.al _).al _).tr hb
  have c0 : w2.cell? ⟨w.heap.size + 1, 0, none⟩ = some (.string a) := by rw [kB.cell]; rfl
  have c1 : w2.cell? ⟨w.heap.size + 1, 1, none⟩ = some (.string b) := by rw [kB.cell]; rfl
  have c2 : w2.cell? ⟨w.heap.size + 1, 2, none⟩ = some (.string n) := by rw [kB.cell]; rfl
  have r0 : w2.cell? ⟨w.heap.size, 0, none⟩ = some (.int .i64 0) := by rw [kR.cell]; rfl
  have r1 : w2.cell? ⟨w.heap.size, 1, none⟩ = some (.int .i64 0) := by rw [kR.cell]; rfl
  have f0 := kR.fr 0
  have f1 := kR.fr 1
  have lt1 := kR.lt
  have lt2 := kB.lt
  have g0 : ∀ o, (w2.alloc o).frozen? ⟨w.heap.size, 0, none⟩ = false := fun o => (kR.al o).fr 0
  have g1 : ∀ o, (w2.alloc o).frozen? ⟨w.heap.size, 1, none⟩ = false := fun o => (kR.al o).fr 1
  have HK := Lib.hid kR
  have HB2 := Lib.hid (And.intro kB hb2)
  go_wp2_with fail
  go_at_call 79
  refine (HP.out _).mono ?_
  rintro e w3 ⟨rfl, hb3⟩
  have kB3 := (HB2.out.1).bel hb3
  have kR3 := (HK.out).bel hb3
  have hbw3 := (HB2.out.2).tr hb3
  clear c0 c1 c2 r0 r1 f0 f1 HB2 HK
  clear lt1 lt2 g0 g1
  have c0 : w3.cell? ⟨w.heap.size + 1, 0, none⟩ = some (.string a) := by rw [kB3.cell]; rfl
  have c1 : w3.cell? ⟨w.heap.size + 1, 1, none⟩ = some (.string b) := by rw [kB3.cell]; rfl
  have c2 : w3.cell? ⟨w.heap.size + 1, 2, none⟩ = some (.string n) := by rw [kB3.cell]; rfl
  have r0 : w3.cell? ⟨w.heap.size, 0, none⟩ = some (.int .i64 0) := by rw [kR3.cell]; rfl
  have r1 : w3.cell? ⟨w.heap.size, 1, none⟩ = some (.int .i64 0) := by rw [kR3.cell]; rfl
  have f0 := kR3.fr 0
  have f1 := kR3.fr 1
  have lt1 := kR3.lt
  have lt2 := kB3.lt
  have g0 : ∀ o, (w3.alloc o).frozen? ⟨w.heap.size, 0, none⟩ = false := fun o => (kR3.al o).fr 0
  have g1 : ∀ o, (w3.alloc o).frozen? ⟨w.heap.size, 1, none⟩ = false := fun o => (kR3.al o).fr 1
  have HK := Lib.hid kR3
  have HB2 := Lib.hid (And.intro kB3 hbw3)
  go_wp2_with fail
  go_at_call 80
  refine (HA.out _).mono ?_
  rintro e w4 ⟨rfl, hb4⟩
  have kB4 := (HB2.out.1.al _).bel hb4
  have kR4 := (HK.out.al _).bel hb4
  have hbw4 := (HB2.out.2.al _).tr hb4
  clear c0 c1 c2 r0 r1 f0 f1 HB2 HK
  clear lt1 lt2 g0 g1
  have c0 : w4.cell? ⟨w.heap.size + 1, 0, none⟩ = some (.string a) := by rw [kB4.cell]; rfl
  have c1 : w4.cell? ⟨w.heap.size + 1, 1, none⟩ = some (.string b) := by rw [kB4.cell]; rfl
  have c2 : w4.cell? ⟨w.heap.size + 1, 2, none⟩ = some (.string n) := by rw [kB4.cell]; rfl
  have r0 : w4.cell? ⟨w.heap.size, 0, none⟩ = some (.int .i64 0) := by rw [kR4.cell]; rfl
  have r1 : w4.cell? ⟨w.heap.size, 1, none⟩ = some (.int .i64 0) := by rw [kR4.cell]; rfl
  have f0 := kR4.fr 0
  have f1 := kR4.fr 1
  have lt1 := kR4.lt
  have lt2 := kB4.lt
  have g0 : ∀ o, (w4.alloc o).frozen? ⟨w.heap.size, 0, none⟩ = false := fun o => (kR4.al o).fr 0
  have g1 : ∀ o, (w4.alloc o).frozen? ⟨w.heap.size, 1, none⟩ = false := fun o => (kR4.al o).fr 1
  have HK := Lib.hid kR4
  have HB2 := Lib.hid (And.intro kB4 hbw4)
  go_wp2
  exact bodyPost_ret (v := .tuple #[.agg #[.int .i64 0, .int .i64 0], .int .i64 1]) (results_ctR Tryz.results59 _ _ w.heap.size (.int .i64 0) (.int .i64 0) rfl ((HK.out.st 0 _).st 1 _)) rfl (lineR_of HR.out rfl (by repeat (first | exact Bel.rf | exact hb | (with_reducible refine Bel.drwN ?_ _) | (with_reducible refine Bel.drw ?_) | (with_reducible refine Bel.al ?_ _) | ((with_reducible refine Bel.st2 ?_ ?_ _); (show _ ≤ _); (simp only []; omega)) | refine Bel.tr ?_ (by assumption))))
set_option maxHeartbeats 4000000 in
set_option maxRecDepth 100000 in
theorem line_range (s a b n : ByteArray) (hs : s.size ≤ 20000) (US : List Ut) (hW : wds s = [a, b, n]) (ha : a.size ≤ 20000) (hn : n.data.toList ≠ []) (hT : isT a.data.toList = true) (hbs : (⟨(Lib.trimPrefix b.data.toList [45]).toArray⟩ : ByteArray).size ≤ 4611686018427387904) (X P er tv : Int) (hp : prs (rn (Lib.trimPrefix b.data.toList [45])) (Lib.hasPrefix b.data.toList [45]) = .tuple #[.agg #[.int .i64 X, .int .i64 P], .int .i64 er]) (HA : Hid (∀ w, Calls Tryz.prog 80 #[.string a] w fun e w' => e = .returned (.tuple #[.int .i64 tv, .nilIface]) ∧ Bel w w')) (her : er = 1) (ht : ¬ 1099511627776 < tv) (r : Nat) (w : World) (hr : lineS US s.data.toList = ((0, 0), 1)) :
    Calls Tryz.prog 59 #[.string s, .map (some r)] w (LineR US s w) := by
  have HS : Hid (∀ w, Calls Tryz.prog 77 #[.string s, .string ⟨#[32]⟩] w fun e w' => e = .returned (.slice (some ⟨w.heap.size, 0, none⟩) 3 3) ∧ w' = w.alloc (.cells #[.string a, .string b, .string n] 9)) := fun w => by
    have := split_any s (by omega) w
    unfold Spl at this
    rw [hW] at this
    exact this
  have HR := Lib.hid hr
  clear hr hW
  have e0 : n.toList.isEmpty = false := by rw [Lib.toList_data]; cases hq : n.data.toList with | nil => exact absurd hq hn | cons c l => rfl
  have e1 : (n.toList == []) = false := by rw [Lib.toList_data]; cases hq : n.data.toList with | nil => exact absurd hq hn | cons c l => rfl
  have HI : Hid (∀ w, Calls Tryz.prog 78 #[.string a] w fun e w' => e = .returned (.bool true) ∧ Bel w w') := fun w => by have := isTime_any a ha w; rw [hT] at this; exact this
  have HP : Hid (∀ w, Calls Tryz.prog 79 #[.string b] w fun e w' => e = .returned (.tuple #[.agg #[.int .i64 X, .int .i64 P], .int .i64 er]) ∧ Bel w w') := fun w => by rw [← hp]; exact parse_any b ⟨(Lib.trimPrefix b.data.toList [45]).toArray⟩ (Lib.hasPrefix b.data.toList [45]) hbs rfl rfl w
  subst her
  clear hp
  go_enter Tryz.func59, Tryz.ntmps59
  go_wp2_with fail
  go_at_call 77
  refine (HS.out _).mono ?_
  rintro e w1 ⟨rfl, rfl⟩
  go_wp2_with fail
  go_at_call 78
  refine (HI.out _).mono ?_
  rintro e w2 ⟨rfl, hb⟩
  have kB : Bk w2 (w.heap.size + 1) 9 #[.string a, .string b, .string n] := Bk.bel (Bk.nq (w.alloc (.cells #[.int .i64 0, .int .i64 0] 57)) _ _ (by simp)) hb
  have kR : Bk w2 w.heap.size 57 #[.int .i64 0, .int .i64 0] := Bk.bel ((Bk.nw w 57 #[.int .i64 0, .int .i64 0]).al _) hb
  have hb2 : Bel w w2 := ((Bel.rf.al _).al _).tr hb
  have c0 : w2.cell? ⟨w.heap.size + 1, 0, none⟩ = some (.string a) := by rw [kB.cell]; rfl
  have c1 : w2.cell? ⟨w.heap.size + 1, 1, none⟩ = some (.string b) := by rw [kB.cell]; rfl
  have c2 : w2.cell? ⟨w.heap.size + 1, 2, none⟩ = some (.string n) := by rw [kB.cell]; rfl
  have r0 : w2.cell? ⟨w.heap.size, 0, none⟩ = some (.int .i64 0) := by rw [kR.cell]; rfl
  have r1 : w2.cell? ⟨w.heap.size, 1, none⟩ = some (.int .i64 0) := by rw [kR.cell]; rfl
  have f0 := kR.fr 0
  have f1 := kR.fr 1
  have lt1 := kR.lt
  have lt2 := kB.lt
  have g0 : ∀ o, (w2.alloc o).frozen? ⟨w.heap.size, 0, none⟩ = false := fun o => (kR.al o).fr 0
  have g1 : ∀ o, (w2.alloc o).frozen? ⟨w.heap.size, 1, none⟩ = false := fun o => (kR.al o).fr 1
  have HK := Lib.hid kR
  have HB2 := Lib.hid (And.intro kB hb2)
  go_wp2_with fail
  go_at_call 79
  refine (HP.out _).mono ?_
  rintro e w3 ⟨rfl, hb3⟩
  have kB3 := (HB2.out.1).bel hb3
  have kR3 := (HK.out).bel hb3
  have hbw3 := (HB2.out.2).tr hb3
  clear c0 c1 c2 r0 r1 f0 f1 HB2 HK
  clear lt1 lt2 g0 g1
  have c0 : w3.cell? ⟨w.heap.size + 1, 0, none⟩ = some (.string a) := by rw [kB3.cell]; rfl
  have c1 : w3.cell? ⟨w.heap.size + 1, 1, none⟩ = some (.string b) := by rw [kB3.cell]; rfl
  have c2 : w3.cell? ⟨w.heap.size + 1, 2, none⟩ = some (.string n) := by rw [kB3.cell]; rfl
  have r0 : w3.cell? ⟨w.heap.size, 0, none⟩ = some (.int .i64 0) := by rw [kR3.cell]; rfl
  have r1 : w3.cell? ⟨w.heap.size, 1, none⟩ = some (.int .i64 0) := by rw [kR3.cell]; rfl
  have f0 := kR3.fr 0
  have f1 := kR3.fr 1
  have lt1 := kR3.lt
  have lt2 := kB3.lt
  have g0 : ∀ o, (w3.alloc o).frozen? ⟨w.heap.size, 0, none⟩ = false := fun o => (kR3.al o).fr 0
  have g1 : ∀ o, (w3.alloc o).frozen? ⟨w.heap.size, 1, none⟩ = false := fun o => (kR3.al o).fr 1
  have HK := Lib.hid kR3
  have HB2 := Lib.hid (And.intro kB3 hbw3)
  go_wp2_with fail
  go_at_call 80
  refine (HA.out _).mono ?_
  rintro e w4 ⟨rfl, hb4⟩
  have kB4 := (HB2.out.1.al _).bel hb4
  have kR4 := (HK.out.al _).bel hb4
  have hbw4 := (HB2.out.2.al _).tr hb4
  clear c0 c1 c2 r0 r1 f0 f1 HB2 HK
  clear lt1 lt2 g0 g1
  have c0 : w4.cell? ⟨w.heap.size + 1, 0, none⟩ = some (.string a) := by rw [kB4.cell]; rfl
  have c1 : w4.cell? ⟨w.heap.size + 1, 1, none⟩ = some (.string b) := by rw [kB4.cell]; rfl
  have c2 : w4.cell? ⟨w.heap.size + 1, 2, none⟩ = some (.string n) := by rw [kB4.cell]; rfl
  have r0 : w4.cell? ⟨w.heap.size, 0, none⟩ = some (.int .i64 0) := by rw [kR4.cell]; rfl
  have r1 : w4.cell? ⟨w.heap.size, 1, none⟩ = some (.int .i64 0) := by rw [kR4.cell]; rfl
  have f0 := kR4.fr 0
  have f1 := kR4.fr 1
  have lt1 := kR4.lt
  have lt2 := kB4.lt
  have g0 : ∀ o, (w4.alloc o).frozen? ⟨w.heap.size, 0, none⟩ = false := fun o => (kR4.al o).fr 0
  have g1 : ∀ o, (w4.alloc o).frozen? ⟨w.heap.size, 1, none⟩ = false := fun o => (kR4.al o).fr 1
  have HK := Lib.hid kR4
  have HB2 := Lib.hid (And.intro kB4 hbw4)
  go_wp2
  exact bodyPost_ret (v := .tuple #[.agg #[.int .i64 0, .int .i64 0], .int .i64 1]) (results_ctR Tryz.results59 _ _ w.heap.size (.int .i64 0) (.int .i64 0) rfl ((HK.out.st 0 _).st 1 _)) rfl (lineR_of HR.out rfl (by repeat (first | exact Bel.rf | exact hb | (with_reducible refine Bel.drwN ?_ _) | (with_reducible refine Bel.drw ?_) | (with_reducible refine Bel.al ?_ _) | ((with_reducible refine Bel.st2 ?_ ?_ _); (show _ ≤ _); (simp only []; omega)) | refine Bel.tr ?_ (by assumption))))
set_option maxHeartbeats 4000000 in
set_option maxRecDepth 100000 in
theorem line_unit (s a b n : ByteArray) (hs : s.size ≤ 20000) (US : List Ut) (hW : wds s = [a, b, n]) (ha : a.size ≤ 20000) (hn : n.data.toList ≠ []) (hT : isT a.data.toList = true) (hbs : (⟨(Lib.trimPrefix b.data.toList [45]).toArray⟩ : ByteArray).size ≤ 4611686018427387904) (X P er tv : Int) (hp : prs (rn (Lib.trimPrefix b.data.toList [45])) (Lib.hasPrefix b.data.toList [45]) = .tuple #[.agg #[.int .i64 X, .int .i64 P], .int .i64 er]) (HA : Hid (∀ w, Calls Tryz.prog 80 #[.string a] w fun e w' => e = .returned (.tuple #[.int .i64 tv, .nilIface]) ∧ Bel w w')) (her : er = 0) (ht : ¬ 1099511627776 < tv) (hl : look US n.data.toList = none) (r : Nat) (w : World) (hM : Mp w r US) (hr : lineS US s.data.toList = ((0, 0), 7)) :
    Calls Tryz.prog 59 #[.string s, .map (some r)] w (LineR US s w) := by
  have HS : Hid (∀ w, Calls Tryz.prog 77 #[.string s, .string ⟨#[32]⟩] w fun e w' => e = .returned (.slice (some ⟨w.heap.size, 0, none⟩) 3 3) ∧ w' = w.alloc (.cells #[.string a, .string b, .string n] 9)) := fun w => by
    have := split_any s (by omega) w
    unfold Spl at this
    rw [hW] at this
    exact this
  have HM := Lib.hid hM
  clear hM
  have HR := Lib.hid hr
  clear hr hW
  have e0 : n.toList.isEmpty = false := by rw [Lib.toList_data]; cases hq : n.data.toList with | nil => exact absurd hq hn | cons c l => rfl
  have e1 : (n.toList == []) = false := by rw [Lib.toList_data]; cases hq : n.data.toList with | nil => exact absurd hq hn | cons c l => rfl
  have HI : Hid (∀ w, Calls Tryz.prog 78 #[.string a] w fun e w' => e = .returned (.bool true) ∧ Bel w w') := fun w => by have := isTime_any a ha w; rw [hT] at this; exact this
  have HP : Hid (∀ w, Calls Tryz.prog 79 #[.string b] w fun e w' => e = .returned (.tuple #[.agg #[.int .i64 X, .int .i64 P], .int .i64 er]) ∧ Bel w w') := fun w => by rw [← hp]; exact parse_any b ⟨(Lib.trimPrefix b.data.toList [45]).toArray⟩ (Lib.hasPrefix b.data.toList [45]) hbs rfl rfl w
  subst her
  clear hp
  go_enter Tryz.func59, Tryz.ntmps59
  go_wp2_with fail
  go_at_call 77
  refine (HS.out _).mono ?_
  rintro e w1 ⟨rfl, rfl⟩
  go_wp2_with fail
  go_at_call 78
  refine (HI.out _).mono ?_
  rintro e w2 ⟨rfl, hb⟩
  have kB : Bk w2 (w.heap.size + 1) 9 #[.string a, .string b, .string n] := Bk.bel (Bk.nq (w.alloc (.cells #[.int .i64 0, .int .i64 0] 57)) _ _ (by simp)) hb
  have kR : Bk w2 w.heap.size 57 #[.int .i64 0, .int .i64 0] := Bk.bel ((Bk.nw w 57 #[.int .i64 0, .int .i64 0]).al _) hb
  have hb2 : Bel w w2 := ((Bel.rf.al _).al _).tr hb
  have c0 : w2.cell? ⟨w.heap.size + 1, 0, none⟩ = some (.string a) := by rw [kB.cell]; rfl
  have c1 : w2.cell? ⟨w.heap.size + 1, 1, none⟩ = some (.string b) := by rw [kB.cell]; rfl
  have c2 : w2.cell? ⟨w.heap.size + 1, 2, none⟩ = some (.string n) := by rw [kB.cell]; rfl
  have r0 : w2.cell? ⟨w.heap.size, 0, none⟩ = some (.int .i64 0) := by rw [kR.cell]; rfl
  have r1 : w2.cell? ⟨w.heap.size, 1, none⟩ = some (.int .i64 0) := by rw [kR.cell]; rfl
  have f0 := kR.fr 0
  have f1 := kR.fr 1
  have lt1 := kR.lt
  have lt2 := kB.lt
  have g0 : ∀ o, (w2.alloc o).frozen? ⟨w.heap.size, 0, none⟩ = false := fun o => (kR.al o).fr 0
  have g1 : ∀ o, (w2.alloc o).frozen? ⟨w.heap.size, 1, none⟩ = false := fun o => (kR.al o).fr 1
  have HK := Lib.hid kR
  have HB2 := Lib.hid (And.intro kB hb2)
  go_wp2_with fail
  go_at_call 79
  refine (HP.out _).mono ?_
  rintro e w3 ⟨rfl, hb3⟩
  have kB3 := (HB2.out.1).bel hb3
  have kR3 := (HK.out).bel hb3
  have hbw3 := (HB2.out.2).tr hb3
  clear c0 c1 c2 r0 r1 f0 f1 HB2 HK
  clear lt1 lt2 g0 g1
  have c0 : w3.cell? ⟨w.heap.size + 1, 0, none⟩ = some (.string a) := by rw [kB3.cell]; rfl
  have c1 : w3.cell? ⟨w.heap.size + 1, 1, none⟩ = some (.string b) := by rw [kB3.cell]; rfl
  have c2 : w3.cell? ⟨w.heap.size + 1, 2, none⟩ = some (.string n) := by rw [kB3.cell]; rfl
  have r0 : w3.cell? ⟨w.heap.size, 0, none⟩ = some (.int .i64 0) := by rw [kR3.cell]; rfl
  have r1 : w3.cell? ⟨w.heap.size, 1, none⟩ = some (.int .i64 0) := by rw [kR3.cell]; rfl
  have f0 := kR3.fr 0
  have f1 := kR3.fr 1
  have lt1 := kR3.lt
  have lt2 := kB3.lt
  have g0 : ∀ o, (w3.alloc o).frozen? ⟨w.heap.size, 0, none⟩ = false := fun o => (kR3.al o).fr 0
  have g1 : ∀ o, (w3.alloc o).frozen? ⟨w.heap.size, 1, none⟩ = false := fun o => (kR3.al o).fr 1
  have HK := Lib.hid kR3
  have HB2 := Lib.hid (And.intro kB3 hbw3)
  go_wp2_with fail
  go_at_call 80
  refine (HA.out _).mono ?_
  rintro e w4 ⟨rfl, hb4⟩
  have kB4 := (HB2.out.1.al _).bel hb4
  have kR4 := (HK.out.al _).bel hb4
  have hbw4 := (HB2.out.2.al _).tr hb4
  clear c0 c1 c2 r0 r1 f0 f1 HB2 HK
  clear lt1 lt2 g0 g1
  have c0 : w4.cell? ⟨w.heap.size + 1, 0, none⟩ = some (.string a) := by rw [kB4.cell]; rfl
  have c1 : w4.cell? ⟨w.heap.size + 1, 1, none⟩ = some (.string b) := by rw [kB4.cell]; rfl
  have c2 : w4.cell? ⟨w.heap.size + 1, 2, none⟩ = some (.string n) := by rw [kB4.cell]; rfl
  have r0 : w4.cell? ⟨w.heap.size, 0, none⟩ = some (.int .i64 0) := by rw [kR4.cell]; rfl
  have r1 : w4.cell? ⟨w.heap.size, 1, none⟩ = some (.int .i64 0) := by rw [kR4.cell]; rfl
  have f0 := kR4.fr 0
  have f1 := kR4.fr 1
  have lt1 := kR4.lt
  have lt2 := kB4.lt
  have g0 : ∀ o, (w4.alloc o).frozen? ⟨w.heap.size, 0, none⟩ = false := fun o => (kR4.al o).fr 0
  have g1 : ∀ o, (w4.alloc o).frozen? ⟨w.heap.size, 1, none⟩ = false := fun o => (kR4.al o).fr 1
  have HK := Lib.hid kR4
  have HB2 := Lib.hid (And.intro kB4 hbw4)
  have hlk : (Instr.lookup 112 (.map (some r)) (.string n) true).run Tryz.prog w4 = .ok (.tuple #[.agg #[.string ⟨#[]⟩, .int .i64 0, .int .i64 0, .int .i64 0], .bool false]) w4 := look_miss (HM.out.bel hbw4) n hl
  go_wp2
  exact bodyPost_ret (v := .tuple #[.agg #[.int .i64 0, .int .i64 0], .int .i64 7]) (results_ctR Tryz.results59 _ _ w.heap.size (.int .i64 0) (.int .i64 0) rfl (((HK.out.st 0 _).st 1 _).al _)) rfl (lineR_of HR.out rfl (by repeat (first | exact Bel.rf | exact hb | (with_reducible refine Bel.drwN ?_ _) | (with_reducible refine Bel.drw ?_) | (with_reducible refine Bel.al ?_ _) | ((with_reducible refine Bel.st2 ?_ ?_ _); (show _ ≤ _); (simp only []; omega)) | refine Bel.tr ?_ (by assumption))))
set_option maxHeartbeats 4000000 in
set_option maxRecDepth 100000 in
theorem line_conv (s a b n : ByteArray) (hs : s.size ≤ 20000) (US : List Ut) (hW : wds s = [a, b, n]) (ha : a.size ≤ 20000) (hn : n.data.toList ≠ []) (hT : isT a.data.toList = true) (hbs : (⟨(Lib.trimPrefix b.data.toList [45]).toArray⟩ : ByteArray).size ≤ 4611686018427387904) (X P er tv : Int) (hp : prs (rn (Lib.trimPrefix b.data.toList [45])) (Lib.hasPrefix b.data.toList [45]) = .tuple #[.agg #[.int .i64 X, .int .i64 P], .int .i64 er]) (HA : Hid (∀ w, Calls Tryz.prog 80 #[.string a] w fun e w' => e = .returned (.tuple #[.int .i64 tv, .nilIface]) ∧ Bel w w')) (nm : List UInt8) (mul add div cvv ce : Int) (hC : ∀ w, Pows w → Calls Tryz.prog 81 #[.agg #[.int .i64 X, .int .i64 P], .agg #[.string ⟨nm.toArray⟩, .int .i64 mul, .int .i64 add, .int .i64 div]] w fun e w' => e = .returned (.tuple #[.int .i64 cvv, .int .i64 ce]) ∧ Bel w w') (her : er = 0) (ht : ¬ 1099511627776 < tv) (hl : look US n.data.toList = some ⟨nm, mul, add, div⟩) (r : Nat) (w : World) (hM : Mp w r US) (hPW : Pows w) (hr : lineS US s.data.toList = ((tv, cvv), ce)) :
    Calls Tryz.prog 59 #[.string s, .map (some r)] w (LineR US s w) := by
  have HS : Hid (∀ w, Calls Tryz.prog 77 #[.string s, .string ⟨#[32]⟩] w fun e w' => e = .returned (.slice (some ⟨w.heap.size, 0, none⟩) 3 3) ∧ w' = w.alloc (.cells #[.string a, .string b, .string n] 9)) := fun w => by
    have := split_any s (by omega) w
    unfold Spl at this
    rw [hW] at this
    exact this
  have HM := Lib.hid hM
  have HPW := Lib.hid hPW
  clear hM hPW
  have HR := Lib.hid hr
  clear hr hW
  have e0 : n.toList.isEmpty = false := by rw [Lib.toList_data]; cases hq : n.data.toList with | nil => exact absurd hq hn | cons c l => rfl
  have e1 : (n.toList == []) = false := by rw [Lib.toList_data]; cases hq : n.data.toList with | nil => exact absurd hq hn | cons c l => rfl
  have HI : Hid (∀ w, Calls Tryz.prog 78 #[.string a] w fun e w' => e = .returned (.bool true) ∧ Bel w w') := fun w => by have := isTime_any a ha w; rw [hT] at this; exact this
  have HP : Hid (∀ w, Calls Tryz.prog 79 #[.string b] w fun e w' => e = .returned (.tuple #[.agg #[.int .i64 X, .int .i64 P], .int .i64 er]) ∧ Bel w w') := fun w => by rw [← hp]; exact parse_any b ⟨(Lib.trimPrefix b.data.toList [45]).toArray⟩ (Lib.hasPrefix b.data.toList [45]) hbs rfl rfl w
  subst her
  have HC := Lib.hid hC
  clear hp hC
  go_enter Tryz.func59, Tryz.ntmps59
  go_wp2_with fail
  go_at_call 77
  refine (HS.out _).mono ?_
  rintro e w1 ⟨rfl, rfl⟩
  go_wp2_with fail
  go_at_call 78
  refine (HI.out _).mono ?_
  rintro e w2 ⟨rfl, hb⟩
  have kB : Bk w2 (w.heap.size + 1) 9 #[.string a, .string b, .string n] := Bk.bel (Bk.nq (w.alloc (.cells #[.int .i64 0, .int .i64 0] 57)) _ _ (by simp)) hb
  have kR : Bk w2 w.heap.size 57 #[.int .i64 0, .int .i64 0] := Bk.bel ((Bk.nw w 57 #[.int .i64 0, .int .i64 0]).al _) hb
  have hb2 : Bel w w2 := ((Bel.rf.al _).al _).tr hb
  have c0 : w2.cell? ⟨w.heap.size + 1, 0, none⟩ = some (.string a) := by rw [kB.cell]; rfl
  have c1 : w2.cell? ⟨w.heap.size + 1, 1, none⟩ = some (.string b) := by rw [kB.cell]; rfl
  have c2 : w2.cell? ⟨w.heap.size + 1, 2, none⟩ = some (.string n) := by rw [kB.cell]; rfl
  have r0 : w2.cell? ⟨w.heap.size, 0, none⟩ = some (.int .i64 0) := by rw [kR.cell]; rfl
  have r1 : w2.cell? ⟨w.heap.size, 1, none⟩ = some (.int .i64 0) := by rw [kR.cell]; rfl
  have f0 := kR.fr 0
  have f1 := kR.fr 1
  have lt1 := kR.lt
  have lt2 := kB.lt
  have g0 : ∀ o, (w2.alloc o).frozen? ⟨w.heap.size, 0, none⟩ = false := fun o => (kR.al o).fr 0
  have g1 : ∀ o, (w2.alloc o).frozen? ⟨w.heap.size, 1, none⟩ = false := fun o => (kR.al o).fr 1
  have HK := Lib.hid kR
  have HB2 := Lib.hid (And.intro kB hb2)
  go_wp2_with fail
  go_at_call 79
  refine (HP.out _).mono ?_
  rintro e w3 ⟨rfl, hb3⟩
  have kB3 := (HB2.out.1).bel hb3
  have kR3 := (HK.out).bel hb3
  have hbw3 := (HB2.out.2).tr hb3
  clear c0 c1 c2 r0 r1 f0 f1 HB2 HK
  clear lt1 lt2 g0 g1
  have c0 : w3.cell? ⟨w.heap.size + 1, 0, none⟩ = some (.string a) := by rw [kB3.cell]; rfl
  have c1 : w3.cell? ⟨w.heap.size + 1, 1, none⟩ = some (.string b) := by rw [kB3.cell]; rfl
  have c2 : w3.cell? ⟨w.heap.size + 1, 2, none⟩ = some (.string n) := by rw [kB3.cell]; rfl
  have r0 : w3.cell? ⟨w.heap.size, 0, none⟩ = some (.int .i64 0) := by rw [kR3.cell]; rfl
  have r1 : w3.cell? ⟨w.heap.size, 1, none⟩ = some (.int .i64 0) := by rw [kR3.cell]; rfl
  have f0 := kR3.fr 0
  have f1 := kR3.fr 1
  have lt1 := kR3.lt
  have lt2 := kB3.lt
  have g0 : ∀ o, (w3.alloc o).frozen? ⟨w.heap.size, 0, none⟩ = false := fun o => (kR3.al o).fr 0
  have g1 : ∀ o, (w3.alloc o).frozen? ⟨w.heap.size, 1, none⟩ = false := fun o => (kR3.al o).fr 1
  have HK := Lib.hid kR3
  have HB2 := Lib.hid (And.intro kB3 hbw3)
  go_wp2_with fail
  go_at_call 80
  refine (HA.out _).mono ?_
  rintro e w4 ⟨rfl, hb4⟩
  have kB4 := (HB2.out.1.al _).bel hb4
  have kR4 := (HK.out.al _).bel hb4
  have hbw4 := (HB2.out.2.al _).tr hb4
  clear c0 c1 c2 r0 r1 f0 f1 HB2 HK
  clear lt1 lt2 g0 g1
  have c0 : w4.cell? ⟨w.heap.size + 1, 0, none⟩ = some (.string a) := by rw [kB4.cell]; rfl
  have c1 : w4.cell? ⟨w.heap.size + 1, 1, none⟩ = some (.string b) := by rw [kB4.cell]; rfl
  have c2 : w4.cell? ⟨w.heap.size + 1, 2, none⟩ = some (.string n) := by rw [kB4.cell]; rfl
  have r0 : w4.cell? ⟨w.heap.size, 0, none⟩ = some (.int .i64 0) := by rw [kR4.cell]; rfl
  have r1 : w4.cell? ⟨w.heap.size, 1, none⟩ = some (.int .i64 0) := by rw [kR4.cell]; rfl
  have f0 := kR4.fr 0
  have f1 := kR4.fr 1
  have lt1 := kR4.lt
  have lt2 := kB4.lt
  have g0 : ∀ o, (w4.alloc o).frozen? ⟨w.heap.size, 0, none⟩ = false := fun o => (kR4.al o).fr 0
  have g1 : ∀ o, (w4.alloc o).frozen? ⟨w.heap.size, 1, none⟩ = false := fun o => (kR4.al o).fr 1
  have HK := Lib.hid kR4
  have HB2 := Lib.hid (And.intro kB4 hbw4)
  have hlk : (Instr.lookup 112 (.map (some r)) (.string n) true).run Tryz.prog w4 = .ok (.tuple #[.agg #[.string ⟨nm.toArray⟩, .int .i64 mul, .int .i64 add, .int .i64 div], .bool true]) w4 := look_hit (HM.out.bel hbw4) n _ hl
  have kD : Bk w4 w3.heap.size 147 #[.int .i64 X, .int .i64 P] := (Bk.nw w3 _ _).bel hb4
  have d0 : w4.cell? ⟨w3.heap.size, 0, none⟩ = some (.int .i64 X) := by rw [kD.cell]; rfl
  have d1 : w4.cell? ⟨w3.heap.size, 1, none⟩ = some (.int .i64 P) := by rw [kD.cell]; rfl
  have d2 : ∀ o, (w4.alloc o).cell? ⟨w3.heap.size, 0, none⟩ = some (.int .i64 X) := fun o => kp_al d0 o
  have d3 : ∀ o, (w4.alloc o).cell? ⟨w3.heap.size, 1, none⟩ = some (.int .i64 P) := fun o => kp_al d1 o
  have d4 := kD.lt
  go_wp2_with fail
  go_at_call 81
  refine (HC.out _ (HPW.out.bel (hbw4.al _))).mono ?_
  rintro e w5 ⟨rfl, hb5⟩
  have kB5 := (HB2.out.1.al _).bel hb5
  have kR5 := (HK.out.al _).bel hb5
  have hbw5 := (HB2.out.2.al _).tr hb5
  clear c0 c1 c2 r0 r1 f0 f1 HB2 HK
  clear lt1 lt2 g0 g1
  have c0 : w5.cell? ⟨w.heap.size + 1, 0, none⟩ = some (.string a) := by rw [kB5.cell]; rfl
  have c1 : w5.cell? ⟨w.heap.size + 1, 1, none⟩ = some (.string b) := by rw [kB5.cell]; rfl
  have c2 : w5.cell? ⟨w.heap.size + 1, 2, none⟩ = some (.string n) := by rw [kB5.cell]; rfl
  have r0 : w5.cell? ⟨w.heap.size, 0, none⟩ = some (.int .i64 0) := by rw [kR5.cell]; rfl
  have r1 : w5.cell? ⟨w.heap.size, 1, none⟩ = some (.int .i64 0) := by rw [kR5.cell]; rfl
  have f0 := kR5.fr 0
  have f1 := kR5.fr 1
  have lt1 := kR5.lt
  have lt2 := kB5.lt
  have g0 : ∀ o, (w5.alloc o).frozen? ⟨w.heap.size, 0, none⟩ = false := fun o => (kR5.al o).fr 0
  have g1 : ∀ o, (w5.alloc o).frozen? ⟨w.heap.size, 1, none⟩ = false := fun o => (kR5.al o).fr 1
  have HK := Lib.hid kR5
  have HB2 := Lib.hid (And.intro kB5 hbw5)
  go_wp2
  exact bodyPost_ret (v := .tuple #[.agg #[.int .i64 tv, .int .i64 cvv], .int .i64 ce]) (results_ctR Tryz.results59 _ _ w.heap.size (.int .i64 tv) (.int .i64 cvv) rfl ((HK.out.st 0 _).st 1 _)) rfl (lineR_of HR.out rfl (by repeat (first | exact Bel.rf | exact hb | (with_reducible refine Bel.drwN ?_ _) | (with_reducible refine Bel.drw ?_) | (with_reducible refine Bel.al ?_ _) | ((with_reducible refine Bel.st2 ?_ ?_ _); (show _ ≤ _); (simp only []; omega)) | refine Bel.tr ?_ (by assumption))))
end Go.Proofs.YtnjojdmmalmhaaaGreatDoor.Rt
namespace Go.Proofs.YtnjojdmmalmhaaaGreatDoor.Rt
open Go.ChangeShapes Go.WideShapes Go.RowKit Wo Un Rg Go.MapKept
open Rm (Rp tm vl)
set_option linter.unusedVariables false
theorem splitK_len (sep : List UInt8) : ∀ (k : Nat) (l x : List UInt8), x ∈ Lib.splitK sep 0 k l → x.length ≤ l.length
  | 0, l, x, h => by
    have : x = l := by simpa [Lib.splitK] using h
    rw [this]; exact Nat.le_refl _
  | k + 1, l, x, h => by
    unfold Lib.splitK at h
    split at h
    · have : x = l := by simpa using h
      rw [this]; exact Nat.le_refl _
    · rcases List.mem_cons.1 h with h | h
      · rw [h, List.length_take]; omega
      · have := splitK_len sep k _ x h
        simp only [List.length_drop] at this; omega
theorem dec_val : ∀ (l : List UInt8) (acc : Nat), allD l → Lib.decFrom acc l = some (l.foldl (fun v c => 10 * v + (c.toNat - 48)) acc)
  | [], acc, _ => rfl
  | c :: l, acc, h => by
    have hc := h c (by simp)
    unfold Lib.decFrom Lib.digitVal
    rw [if_pos ⟨hc.1, hc.2⟩]
    show Lib.decFrom (acc * 10 + (c.toNat - 48)) l = _
    rw [dec_val l _ (fun x hx => h x (by simp [hx])), List.foldl_cons, Nat.mul_comm]
theorem atoi_val (l : List UInt8) (h : allD l) (hn : l ≠ []) : Lib.atoi l = some ((val l : Nat) : Int) := by
  rcases l with _ | ⟨c, l⟩
  · exact absurd rfl hn
  · have hc := h c (by simp)
    have n1 : (c == 45) = false := by
      rw [beq_eq_false_iff_ne]; intro e; rw [e] at hc; exact absurd hc (by unfold isD; decide)
    have n2 : (c == 43) = false := by
      rw [beq_eq_false_iff_ne]; intro e; rw [e] at hc; exact absurd hc (by unfold isD; decide)
    show (if (c == 45) = true then _ else if (c == 43) = true then _ else (Lib.decNat (c :: l)).map fun (m : Nat) => (m : Int)) = _
    rw [n1, n2]
    show (Lib.decNat (c :: l)).map (fun (m : Nat) => (m : Int)) = _
    unfold Lib.decNat
    rw [if_neg (by simp), dec_val _ _ h]; rfl
theorem isT_facts {l : List UInt8} (h : isT l = true) : allD l ∧ l ≠ [] ∧ l.length ≤ 13 := by
  unfold isT at h
  simp only [Bool.and_eq_true, decide_eq_true_eq, List.all_eq_true] at h
  obtain ⟨h1, h2, _, h3⟩ := h
  exact ⟨fun c hc => ⟨by simpa using (h3 c hc).1, by simpa using (h3 c hc).2⟩, fun e => by rw [e] at h1; simp at h1, h2⟩
theorem look_mem {US : List Ut} {n : List UInt8} {u : Ut} (h : look US n = some u) : u ∈ US ∧ u.nm = n := by
  have := List.find?_some h
  exact ⟨List.mem_of_find?_eq_some h, by simpa using this⟩
theorem three {α : Type} {l : List α} (h : l.length = 3) : ∃ a b c, l = [a, b, c] := by
  rcases l with _ | ⟨a, _ | ⟨b, _ | ⟨c, _ | ⟨d, l⟩⟩⟩⟩
  all_goals first | exact ⟨_, _, _, rfl⟩ | (simp at h)
theorem line_any (s : ByteArray) (hs : s.size ≤ 20000) (US : List Ut) (hU : ∀ u ∈ US, GoodU u) (r : Nat) (w : World) (hM : Mp w r US) (hPW : Pows w) :
    Calls Tryz.prog 59 #[.string s, .map (some r)] w (LineR US s w) := by
  by_cases h3 : (wds s).length = 3
  · obtain ⟨a, b, n, hW⟩ := three h3
    have hd := wds_data s
    rw [hW] at hd
    have hsp : Lib.split s.data.toList [32] = [a.data.toList, b.data.toList, n.data.toList] := hd.symm
    have hlen : ∀ x : ByteArray, x.data.toList ∈ Lib.split s.data.toList [32] → x.size ≤ s.size := fun x hx => by
      have := splitK_len [32] _ _ _ hx
      rw [Lib.size_eq x, Lib.size_eq s]; exact this
    have ha := hlen a (by rw [hsp]; simp)
    have hb := hlen b (by rw [hsp]; simp)
    have htl : (⟨(Lib.trimPrefix b.data.toList [45]).toArray⟩ : ByteArray).size ≤ 4611686018427387904 := by
      have h1 : (Lib.trimPrefix b.data.toList [45]).length ≤ b.data.toList.length := by
        unfold Lib.trimPrefix
        split
        · simp
        · exact Nat.le_refl _
      rw [Lib.size_eq]
      have h2 := Lib.size_eq b
      show (Lib.trimPrefix b.data.toList [45]).length ≤ _
      omega
    have hL : lineS US s.data.toList = line3 US a.data.toList b.data.toList n.data.toList := by
      unfold lineS
      rw [hsp]
    unfold line3 at hL
    by_cases hn : n.data.toList = []
    · exact line_en s a b n hs US hW (by omega) hn r w (by rw [hL, if_pos (.inl hn)])
    cases hT : isT a.data.toList
    · exact line_nt s a b n hs US hW (by omega) hn hT r w (by rw [hL, if_pos (.inr hT)])
    rw [if_neg (by rw [hT]; simp [hn])] at hL
    obtain ⟨hAD, hne, h13⟩ := isT_facts hT
    have HA : Hid (∀ w, Calls Tryz.prog 80 #[.string a] w fun e w' => e = .returned (.tuple #[.int .i64 ((val a.data.toList : Nat) : Int), .nilIface]) ∧ Bel w w') := fun w =>
      (Tryz.strconv_Atoi a _ (by rw [Lib.size_eq]; omega) (atoi_val _ hAD hne) w).mono fun e w' ⟨he, t, hw⟩ => ⟨he, by rw [hw]; exact Lib.bytesWorld_below _ _ _⟩
    have hok := rn_ok (Lib.trimPrefix b.data.toList [45])
    generalize hS : rn (Lib.trimPrefix b.data.toList [45]) = S at hL hok
    generalize hm : Lib.hasPrefix b.data.toList [45] = m at hL
    by_cases hrej : rej S m = true
    · rw [if_pos hrej] at hL
      exact line_pf s a b n hs US hW (by omega) hn hT htl 0 0 3 (by rw [hS, hm]; unfold prs; rw [if_pos hrej]) rfl r w hL
    rw [if_neg hrej] at hL
    by_cases hdg : 1000000000 < S.digits
    · have hp : prs (rn (Lib.trimPrefix b.data.toList [45])) (Lib.hasPrefix b.data.toList [45]) = .tuple #[.agg #[.int .i64 0, .int .i64 0], .int .i64 1] := by
        rw [hS, hm]; unfold prs; rw [if_neg hrej, if_pos hdg]
      rw [if_pos hdg] at hL
      by_cases htm : 1099511627776 < ((val a.data.toList : Nat) : Int)
      · rw [if_pos htm] at hL
        exact line_late s a b n hs US hW (by omega) hn hT htl 0 0 1 _ hp HA (by decide) htm r w hL
      · rw [if_neg htm] at hL
        exact line_range s a b n hs US hW (by omega) hn hT htl 0 0 1 _ hp HA rfl htm r w hL
    · rw [if_neg hdg] at hL
      have hrf : rej S m = false := by simpa using hrej
      have hpl : S.places ≤ 6 := by
        unfold rej at hrf
        simp only [Bool.or_eq_false_iff, decide_eq_false_iff_not] at hrf
        omega
      obtain ⟨p, hpp⟩ := Int.eq_ofNat_of_zero_le hok.2.2.2.2.1
      have hp : prs (rn (Lib.trimPrefix b.data.toList [45])) (Lib.hasPrefix b.data.toList [45]) = .tuple #[.agg #[.int .i64 (if m = true then -S.digits else S.digits), .int .i64 (p : Int)], .int .i64 0] := by
        rw [hS, hm]; unfold prs; rw [if_neg hrej, if_neg hdg, hpp]
      by_cases htm : 1099511627776 < ((val a.data.toList : Nat) : Int)
      · rw [if_pos htm] at hL
        exact line_late s a b n hs US hW (by omega) hn hT htl _ _ 0 _ hp HA (by decide) htm r w hL
      rw [if_neg htm] at hL
      rcases hlk : look US n.data.toList with _ | u
      · rw [hlk] at hL
        exact line_unit s a b n hs US hW (by omega) hn hT htl _ _ 0 _ hp HA rfl htm hlk r w hM hL
      · rw [hlk] at hL
        obtain ⟨hmem, _⟩ := look_mem hlk
        obtain ⟨g1, g2, g3, g4, g5, g6, g7⟩ := hU u hmem
        have d0 := hok.1
        have hX : -1000000000 ≤ (if m = true then -S.digits else S.digits) ∧ (if m = true then -S.digits else S.digits) ≤ 1000000000 := by split <;> omega
        generalize (if m = true then -S.digits else S.digits) = X at hp hX hL
        have hpv : cv X S.places u = hup (X * u.mul + u.add * 10 ^ p) (u.div * 10 ^ p) := by
          unfold cv p10; rw [hpp]; rfl
        simp only at hL
        rw [hpv] at hL
        by_cases hsm : smp (hup (X * u.mul + u.add * 10 ^ p) (u.div * 10 ^ p)) = true
        · rw [if_pos hsm] at hL
          exact line_conv s a b n hs US hW (by omega) hn hT htl _ _ 0 _ hp HA u.nm u.mul u.add u.div _ 0
            (fun w hw => conv_as X p _ _ _ _ _ hX.1 hX.2 (by omega) g1 g2 g3 g4 g5 g6 g7 (by unfold cvt; rw [if_pos hsm]) w hw) rfl htm hlk r w hM hPW hL
        · rw [if_neg hsm] at hL
          exact line_conv s a b n hs US hW (by omega) hn hT htl _ _ 0 _ hp HA u.nm u.mul u.add u.div 0 12
            (fun w hw => conv_as X p _ _ _ _ _ hX.1 hX.2 (by omega) g1 g2 g3 g4 g5 g6 g7 (by unfold cvt; rw [if_neg hsm]) w hw) rfl htm hlk r w hM hPW hL
  · exact line_short s hs US h3 r w
end Go.Proofs.YtnjojdmmalmhaaaGreatDoor.Rt
namespace Go.Proofs.YtnjojdmmalmhaaaGreatDoor.Rt
open Go.ChangeShapes Go.WideShapes Go.RowKit Wo Un Rg Go.MapKept Sr
open Rm (Rp tm vl)
set_option linter.unusedVariables false
theorem run_insertS {P : Program} {T K E : TypeId} (ht : P.underlying T = some (.map K E)) (hkk : P.underlying K = some .string) (w : World) (r clock : Nat) (es : Array MapEntry) (k : ByteArray) (u : Value) (hb : w.heap[r]? = some (.map es clock)) (hn : Instr.findNow .string (.string k) es.toList 0 = some none) :
    (Instr.mapUpdate T (.map (some r)) (.string k) u).run P w = .ok () { w with heap := w.heap.setIfInBounds r (.map (es.push ⟨.string k, u, clock⟩) (clock + 1)) } := by
  unfold Instr.mapUpdate
  simp only [Sem.run_bind, run_underlying ht, Result.andThen, Go.MapKept.run_getObj_map hb, run_checkKey hkk (show IsKey .string (.string k) from trivial), run_findKey hkk hn, run_setObj_map _ hb]
theorem wpList_insertS {P : Program} (w : World) {ops : Array Oper} {rest : List Oper} {o : Oper} {a : Act} {Q : Exit → Act → World → Prop}
    (hg : o.guard = none) (T K E : TypeId) (ht : P.underlying T = some (.map K E)) (hkk : P.underlying K = some .string) (m x v : Operand) (hop : o.op = Op.mapUpdate T m x v) (r clock : Nat) (es : Array MapEntry) (k : ByteArray) (u : Value)
    (hm : a.eval m = .map (some r)) (hx : a.eval x = .string k) (hv : a.eval v = u) (hb : w.heap[r]? = some (.map es clock)) (hn : Instr.findNow .string (.string k) es.toList 0 = some none)
    (hK : ∀ w', w'.heap[r]? = some (.map (es.push ⟨.string k, u, clock⟩) (clock + 1)) → Ch r w w' → wpList P ops Q rest (a.put o.dst undef) w') : wpList P ops Q (o :: rest) a w := by
  refine wpList_plain hg fun K' hK' => ?_
  have hrun := run_insertS (P := P) ht hkk w r clock es k u hb hn
  unfold Oper.wp
  simp [execOp, hop, hm, hx, hv, hrun, Result.andThen]
  refine hK' _ _ (hK _ (heap_set hb).1 ⟨rfl, rfl, rfl, by simp, fun j hj hne => ?_⟩)
  exact (heap_set hb).2 j (fun e => hne (by rw [e]))
theorem ents_snoc (u : Ut) : ∀ (US : List Ut) (k : Nat), ents (US ++ [u]) k = ents US k ++ [⟨.string ⟨u.nm.toArray⟩, uv u, k + US.length⟩]
  | [], k => rfl
  | v :: us, k => by
    show _ :: ents (us ++ [u]) (k + 1) = _ :: (ents us (k + 1) ++ _)
    rw [ents_snoc u us (k + 1), List.length_cons, show k + 1 + us.length = k + (us.length + 1) by omega]
theorem ents_len : ∀ (US : List Ut) (k : Nat), (ents US k).length = US.length
  | [], k => rfl
  | v :: us, k => by show (ents us (k + 1)).length + 1 = us.length + 1; rw [ents_len us (k + 1)]
theorem mp_snoc {w : World} {r : Nat} {US : List Ut} (u : Ut) (h : w.heap[r]? = some (.map ((ents US 0).toArray.push ⟨.string ⟨u.nm.toArray⟩, uv u, US.length⟩) (US.length + 1))) : Mp w r (US ++ [u]) := by
  unfold Mp
  rw [ents_snoc, h, Nat.zero_add]
  simp
theorem run_lenM {P : Program} {t K E : TypeId} (ht : P.underlying t = some (.map K E)) (ty : TypeId) (w : World) (r clock : Nat) (es : Array MapEntry) (hb : w.heap[r]? = some (.map es clock)) : (Builtin.len_ #[t] ty #[.map (some r)]).run P w = .ok (.int .i64 es.size) w := by
  unfold Builtin.len_
  simp [Sem.run_bind, run_underlying ht, Result.andThen, Go.MapKept.run_getObj_map hb, goInt]
/-- a row of units -/
def Zu (w : World) (g : Nat) (US : List Ut) : Prop := g < w.heap.size ∧ ∀ (j : Nat) (u : Ut), US[j]? = some u →
  w.cell? ⟨g, j * 4, none⟩ = some (.string ⟨u.nm.toArray⟩) ∧ w.cell? ⟨g, j * 4 + 1, none⟩ = some (.int .i64 u.mul) ∧ w.cell? ⟨g, j * 4 + 2, none⟩ = some (.int .i64 u.add) ∧ w.cell? ⟨g, j * 4 + 3, none⟩ = some (.int .i64 u.div)
theorem Zu.bel {w w' : World} {g : Nat} {US : List Ut} (h : Zu w g US) (hb : Bel w w') : Zu w' g US :=
  ⟨by have := hb.size; have := h.1; omega, fun j u hu => by
    obtain ⟨a, b, c, d⟩ := h.2 j u hu
    exact ⟨hb.kp a, hb.kp b, hb.kp c, hb.kp d⟩⟩
theorem look_none {US : List Ut} {n : List UInt8} (h : n ∉ US.map (·.nm)) : look US n = none := by
  unfold look
  rw [List.find?_eq_none]
  intro u hu e
  exact h (by rw [← beq_iff_eq.1 e]; exact List.mem_map_of_mem hu)
def IdxR (US : List Ut) (w : World) (e : Ending) (w' : World) : Prop := ∃ r, e = .returned (.tuple #[.map (some r), .int .i64 0]) ∧ w.heap.size ≤ r ∧ Mp w' r US ∧ Bel w w'
set_option maxHeartbeats 4000000 in
set_option maxRecDepth 100000 in
theorem index_any (s : ByteArray) (hs : s.size ≤ 16384) (US : List Ut) (hU : ∀ u ∈ US, GoodU u) (hN : (US.map (·.nm)).Nodup) (n c g : Nat) (hn : US.length = n) (h16 : n ≤ 16) (w : World) (hZ : Zu w g US) :
    Calls Tryz.prog 57 #[.string s, .slice (some ⟨g, 0, none⟩) n c] w (IdxR US w) := by
  have s1 : ¬ (16384 : Int) < (s.size : Int) := by omega
  have n1 : ¬ (16 : Int) < (n : Int) := by omega
  have n2 : (n : Int) ≤ 16 := by omega
  have hmm := @run_makeMap Tryz.prog
  have HZ := Lib.hid hZ
  have HL := Lib.hid hn
  have HG := Lib.hid hU
  have HN := Lib.hid hN
  clear hZ hn hU hN
  go_enter Tryz.func57, Tryz.ntmps57
  go_wp2
  go_loopw [20] (fun s20 wr => ∃ (k : Nat) (V : World), V = wr ∧ k ≤ n ∧ s20 = .int .i64 (k : Int) ∧ Mp wr w.heap.size (US.take k) ∧ Bel w wr) (fun s20 _ => n - (intOf s20).toNat)
  case atStart => exact ⟨0, _, rfl, by omega, rfl, (Go.MapKept.heap_alloc w (.map #[] 0)).1, Bel.rf.al _⟩
  case round =>
    obtain ⟨k, wr, hwr, hk, rfl, hM, hb⟩ := hrel
    subst hwr
    rcases Nat.lt_or_ge k n with hlt | hge
    · obtain ⟨u, hu⟩ : ∃ u, US[k]? = some u := ⟨_, List.getElem?_eq_getElem (by rw [HL.out]; exact hlt)⟩
      have ht : US.take (k + 1) = US.take k ++ [u] := by rw [List.take_add_one, hu]; rfl
      have hfresh : u.nm ∉ (US.take k).map (·.nm) := by
        have h1 : ((US.take (k + 1)).map (·.nm)).Nodup := by
          rw [List.map_take]
          exact List.Nodup.sublist (List.take_sublist _ _) HN.out
        rw [ht, List.map_append, List.map_cons, List.map_nil] at h1
        have := (List.nodup_append.1 h1).2.2
        intro hm
        exact this _ hm _ (by simp) rfl
      have hlen : (US.take k).length = k := by rw [List.length_take, HL.out]; omega
      obtain ⟨c1, c2, c3, c4⟩ := (HZ.out.bel hb).2 k u hu
      obtain ⟨g1, g2, g3, g4, g5, g6, g7⟩ := HG.out u (List.mem_of_getElem? hu)
      have hfd := (find_ents u.nm (US.take k) 0 0).1 (look_none hfresh)
      have HFD := Lib.hid hfd
      have HT := Lib.hid ht
      have HLN := Lib.hid hlen
      obtain ⟨nm, mul, add, div⟩ := u
      have HV : Hid (∀ w, Calls Tryz.prog 75 #[.agg #[.string ⟨nm.toArray⟩, .int .i64 mul, .int .i64 add, .int .i64 div]] w fun e w' => e = .returned (.bool true) ∧ Bel w w') := fun w => unit_yes _ _ _ _ g1 g2 g3 g4 g5 g6 g7 w
      have HM := Lib.hid hM
      have HB := Lib.hid hb
      have ki : (k : Int) < (n : Int) := by omega
      have sz := hb.size
      have hlw := HM.out.lt
      clear hfd ht hlen hfresh hu g1 g2 g3 g4 g5 g6 g7 hM hb
      go_wp2_with fail
      go_at_call 75
      refine (HV.out _).mono ?_
      rintro e w2 ⟨rfl, hb2⟩
      have kU : Bk w2 wr.heap.size 82 #[.string ⟨nm.toArray⟩, .int .i64 mul, .int .i64 add, .int .i64 div] := (Bk.nw wr _ _).bel hb2
      have d0 : w2.cell? ⟨wr.heap.size, 0, none⟩ = some (.string ⟨nm.toArray⟩) := by rw [kU.cell]; rfl
      have d1 : w2.cell? ⟨wr.heap.size, 1, none⟩ = some (.int .i64 mul) := by rw [kU.cell]; rfl
      have d2 : w2.cell? ⟨wr.heap.size, 2, none⟩ = some (.int .i64 add) := by rw [kU.cell]; rfl
      have d3 : w2.cell? ⟨wr.heap.size, 3, none⟩ = some (.int .i64 div) := by rw [kU.cell]; rfl
      have hM2 := Lib.hid ((HM.out.bel (Bel.rf.al _)).bel hb2)
      go_wp2_with (refine wpList_insertS _ rfl 112 9 82 Tryz.underlying112 Tryz.underlying9 _ _ _ rfl w.heap.size _ _ ⟨nm.toArray⟩ (uv ⟨nm, mul, add, div⟩) rfl rfl rfl hM2.out HFD.out ?_; intro w3 hp3 hc3)
      go_roundw
      case rel => exact ⟨k + 1, _, rfl, by omega, by go_num, by rw [HT.out]; exact mp_snoc _ hp3, Bel.ch ((HB.out.al _).tr hb2) hc3 (Nat.le_refl _)⟩
      case measure => simp [intOf]; omega
    · obtain rfl : k = n := by omega
      have hM' : Mp wr w.heap.size US := by rwa [List.take_of_length_le (by rw [HL.out]; exact Nat.le_refl _)] at hM
      have hM2 := hM'
      unfold Mp at hM2
      have hln := run_lenM Tryz.underlying112 3 wr w.heap.size _ _ hM2
      rw [show (ents US 0).toArray.size = k by rw [List.size_toArray, ents_len, HL.out]] at hln
      have HM := Lib.hid (And.intro hM' hb)
      clear hM hM' hb
      go_wp2
      go_ret2
      exact ⟨w.heap.size, rfl, Nat.le_refl _, HM.out.1, HM.out.2⟩
end Go.Proofs.YtnjojdmmalmhaaaGreatDoor.Rt
namespace Go.Proofs.YtnjojdmmalmhaaaGreatDoor.Rt
open Go.ChangeShapes Go.WideShapes Go.RowKit Wo Un Rg Go.MapKept Sr
open Rm (Rp tm vl)
set_option linter.unusedVariables false
def thrown (n er : Int) (r : Bool) : PanicEntry := { v := .iface 110 (.agg #[.int .i64 n, .int .i64 er]), recovered := r }
theorem assert_fault (v : Value) (w : World) : (Instr.typeAssert (.iface 110 v) 20 110 true).run Tryz.prog w = .ok (.tuple #[v, .bool true]) w := by
  unfold Instr.typeAssert
  simp [Sem.run_bind, run_underlying Tryz.underlying110, Result.andThen]
def CW (b : Nat) (n er : Int) (v0 l0 e0 : Value) (w : World) (x1 x2 x3 : Bool) (W : World) : Prop :=
  Bk W b 46 #[if x1 = true then .slice none 0 0 else v0] ∧ Bk W (b + 1) 3 #[if x2 = true then .int .i64 n else l0] ∧ Bk W (b + 2) 29 #[if x3 = true then .int .i64 er else e0] ∧ Below b w W
variable {b : Nat} {n er : Int} {v0 l0 e0 : Value} {w W : World} {x1 x2 x3 : Bool}
theorem cw_in (h1 : Bk w b 46 #[v0]) (h2 : Bk w (b + 1) 3 #[l0]) (h3 : Bk w (b + 2) 29 #[e0]) : CW b n er v0 l0 e0 w false false false w := ⟨h1, h2, h3, Below.refl _ _⟩
theorem cw_out (h : CW b n er v0 l0 e0 w true true true W) : Bk W b 46 #[.slice none 0 0] ∧ Bk W (b + 1) 3 #[.int .i64 n] ∧ Bk W (b + 2) 29 #[.int .i64 er] ∧ Below b w W := h
theorem cw_drw (h : CW b n er v0 l0 e0 w x1 x2 x3 W) : CW b n er v0 l0 e0 w x1 x2 x3 W.drew := ⟨h.1.drw, h.2.1.drw, h.2.2.1.drw, Below.drew h.2.2.2⟩
theorem cw_al {o : Obj} (h : CW b n er v0 l0 e0 w x1 x2 x3 W) : CW b n er v0 l0 e0 w x1 x2 x3 (W.alloc o) := ⟨h.1.al _, h.2.1.al _, h.2.2.1.al _, Below.alloc h.2.2.2 (by have := h.1.lt; omega) _⟩
theorem cw_1 (h : CW b n er v0 l0 e0 w x1 x2 x3 W) : CW b n er v0 l0 e0 w true x2 x3 (W.setCell ⟨b, 0, none⟩ (.slice none 0 0)) := ⟨h.1.st 0 _, h.2.1.far (by show b + 1 ≠ b; omega) _, h.2.2.1.far (by show b + 2 ≠ b; omega) _, Below.setCell h.2.2.2 (by show b ≤ b; omega) _⟩
theorem cw_2 (h : CW b n er v0 l0 e0 w x1 x2 x3 W) : CW b n er v0 l0 e0 w x1 true x3 (W.setCell ⟨b + 1, 0, none⟩ (.int .i64 n)) := ⟨h.1.far (by show b ≠ b + 1; omega) _, h.2.1.st 0 _, h.2.2.1.far (by show b + 2 ≠ b + 1; omega) _, Below.setCell h.2.2.2 (by show b ≤ b + 1; omega) _⟩
theorem cw_3 (h : CW b n er v0 l0 e0 w x1 x2 x3 W) : CW b n er v0 l0 e0 w x1 x2 true (W.setCell ⟨b + 2, 0, none⟩ (.int .i64 er)) := ⟨h.1.far (by show b ≠ b + 2; omega) _, h.2.1.far (by show b + 1 ≠ b + 2; omega) _, h.2.2.1.st 0 _, Below.setCell h.2.2.2 (by show b ≤ b + 2; omega) _⟩
theorem st1 {w : World} {g : Nat} {t : TypeId} {a u : Value} (h : Bk w g t #[a]) : Bk (w.setCell ⟨g, 0, none⟩ u) g t #[u] := h.st 0 u
theorem wpS_by {P : Program} {c : Code} {Q : Exit → Act → List Frame → World → Prop} {a : Act} {cs : List Frame} {w : World} (K : Exit → Act → World → Prop) (h : ∀ K', K' = K → c.wp P K' a w) (hK : ∀ e a' w', K e a' w' → Q e a' cs w') : c.wpS P Q a cs w :=
  fun b k _ _ => let ⟨e, a', w', q, r⟩ := h K rfl b k cs; ⟨e, a', cs, w', hK _ _ _ q, r⟩
theorem catch_idle (p q r : Option Addr) (w : World) :
    CallsD Tryz.prog 56 #[.pointer p, .pointer q, .pointer r] .returning w fun e u' w' => e = .returned (.tuple #[]) ∧ u' = .returning ∧ w' = w := by
  refine callsD_of_wpS Tryz.func56 rfl fun c₀ cs hu => ?_
  apply wpS_seq
  apply wpS_region
  simp [wpOpsS, go_sem, recoverD, hu, Tryz.ntmps56, Exit.thenS]
  apply wpS_seq
  apply wpS_region
  simp [wpOpsS, go_sem, recoverD, hu, Exit.thenS]
  refine wpS_cond (t := false) (by simp [Act.eval, Array.replicate]) ?_
  simp only [Bool.false_eq_true, if_false]
  refine wpS_of_wp (wp_skip ?_)
  cases c₀
  simp_all [bodyPostS, results, Tryz.results56]
set_option maxHeartbeats 1000000 in
theorem catch_thrown (h1 : Bk w b 46 #[v0]) (h2 : Bk w (b + 1) 3 #[l0]) (h3 : Bk w (b + 2) 29 #[e0]) :
    CallsD Tryz.prog 56 #[.pointer (some ⟨b, 0, none⟩), .pointer (some ⟨b + 1, 0, none⟩), .pointer (some ⟨b + 2, 0, none⟩)] (.panicking (thrown n er false :: [])) w fun e u' w' =>
      e = .returned (.tuple #[]) ∧ u' = .panicking (thrown n er true :: []) ∧ Bk w' b 46 #[.slice none 0 0] ∧ Bk w' (b + 1) 3 #[.int .i64 n] ∧ Bk w' (b + 2) 29 #[.int .i64 er] ∧ Below b w w' := by
  refine callsD_of_wpS Tryz.func56 rfl fun c₀ cs hu => ?_
  apply wpS_seq
  apply wpS_region
  simp [wpOpsS, go_sem, recoverD, hu, thrown, Tryz.ntmps56, Exit.thenS]
  have kta := assert_fault (.agg #[.int .i64 n, .int .i64 er]) w
  apply wpS_seq
  apply wpS_region
  simp [wpOpsS, go_sem, Exit.thenS]
  refine wpS_cond (t := true) (by simp [Act.eval, Array.replicate]) ?_
  simp only [if_true]
  apply wpS_seq
  apply wpS_region
  simp [wpOpsS, go_sem, kta, Exit.thenS]
  apply wpS_seq
  apply wpS_seq
  apply wpS_region
  simp [wpOpsS, go_sem, Exit.thenS]
  refine wpS_cond (t := false) (by simp [Act.eval, Array.replicate]) ?_
  simp only [Bool.false_eq_true, if_false]
  refine wpS_of_wp (wp_skip ?_)
  simp only [Exit.thenS]
  refine wpS_by (fun e a' w' => (e = .normal ∨ e = .ret) ∧ a'.defers = [] ∧ Bk w' b 46 #[.slice none 0 0] ∧ Bk w' (b + 1) 3 #[.int .i64 n] ∧ Bk w' (b + 2) 29 #[.int .i64 er] ∧ Below b w w') ?_ ?_
  · intro K' hK'
    subst hK'
    clear hu kta
    have s1 := h1.lt
    have s2 := h2.lt
    have s3 := h3.lt
    have HCW : Hid (CW b n er v0 l0 e0 w false false false w) := cw_in h1 h2 h3
    have c1 : w.cell? ⟨b, 0, none⟩ = some v0 := by rw [h1.cell]; rfl
    have c2 : w.cell? ⟨b + 1, 0, none⟩ = some l0 := by rw [h2.cell]; rfl
    have c3 : w.cell? ⟨b + 2, 0, none⟩ = some e0 := by rw [h3.cell]; rfl
    have f1 := h1.fr 0
    have f2 := h2.fr 0
    have f3 := h3.fr 0
    clear h1 h2 h3
    go_region
    all_goals
      refine ⟨.inl rfl, rfl, cw_out (v0 := v0) (l0 := l0) (e0 := e0) ?_⟩
      repeat (first | (with_reducible refine cw_drw ?_) | (with_reducible refine cw_al ?_))
      first
        | exact cw_3 (cw_2 (cw_1 HCW.out))
        | exact cw_3 (cw_1 (cw_2 HCW.out))
        | exact cw_2 (cw_3 (cw_1 HCW.out))
        | exact cw_2 (cw_1 (cw_3 HCW.out))
        | exact cw_1 (cw_3 (cw_2 HCW.out))
        | exact cw_1 (cw_2 (cw_3 HCW.out))
  · rintro e a' w' ⟨he, hd, hx⟩
    rcases he with rfl | rfl
    · exact ⟨hd, _, rfl, .tuple #[], by simp [results, Tryz.results56], rfl, rfl, hx⟩
    · exact ⟨hd, _, rfl, .tuple #[], by simp [results, Tryz.results56], rfl, rfl, hx⟩
end Go.Proofs.YtnjojdmmalmhaaaGreatDoor.Rt
