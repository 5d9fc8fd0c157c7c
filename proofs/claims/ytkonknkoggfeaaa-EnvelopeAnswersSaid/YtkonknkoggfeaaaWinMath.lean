/- Plain facts about sums over lists of samples (layer 11): no program here. -/
import Derived.Below
namespace Go.Proofs.Ytkonknkoggfeaaa.Wi
set_option linter.unusedVariables false
def su (f : Int → Int) : List Int → Int
  | [] => 0
  | x :: L => f x + su f L
def sq (x : Int) : Int := x * x
def ix (x : Int) : Int := x
theorem su_append (f : Int → Int) (A B : List Int) : su f (A ++ B) = su f A + su f B := by
  induction A with
  | nil => simp [su]
  | cons x A ih => simp only [List.cons_append, su, ih]; omega
theorem su_snoc (f : Int → Int) (A : List Int) (x : Int) : su f (A ++ [x]) = su f A + f x := by
  rw [su_append]; simp [su]
/-- the samples are in their range -/
def Sam (L : List Int) : Prop := ∀ x ∈ L, -1000 ≤ x ∧ x ≤ 1000
theorem Sam.take {L : List Int} (h : Sam L) (n : Nat) : Sam (L.take n) := fun x hx => h x (List.mem_of_mem_take hx)
theorem Sam.drop {L : List Int} (h : Sam L) (n : Nat) : Sam (L.drop n) := fun x hx => h x (List.mem_of_mem_drop hx)
theorem Sam.at {L : List Int} (h : Sam L) (i : Nat) : -1000 ≤ L.getD i 0 ∧ L.getD i 0 ≤ 1000 := by
  rw [List.getD_eq_getElem?_getD]
  rcases Nat.lt_or_ge i L.length with hi | hi
  · rw [List.getElem?_eq_getElem hi]; exact h _ (List.getElem_mem hi)
  · rw [List.getElem?_eq_none hi]; decide
theorem sq_in {x : Int} (h1 : -1000 ≤ x) (h2 : x ≤ 1000) : 0 ≤ x * x ∧ x * x ≤ 1000000 := by
  have a : 0 ≤ (1000 - x) * (1000 + x) := Int.mul_nonneg (by omega) (by omega)
  have e : (1000 - x) * (1000 + x) = 1000000 - x * x := by grind
  have b : 0 ≤ x * x := by
    rcases Int.lt_or_le x 0 with h | h
    · have := Int.mul_nonneg (show 0 ≤ -x by omega) (show 0 ≤ -x by omega); rwa [Int.neg_mul_neg] at this
    · exact Int.mul_nonneg h h
  omega
theorem sq_nn (x : Int) : 0 ≤ x * x := by
  rcases Int.lt_or_le x 0 with h | h
  · have := Int.mul_nonneg (show 0 ≤ -x by omega) (show 0 ≤ -x by omega); rwa [Int.neg_mul_neg] at this
  · exact Int.mul_nonneg h h
theorem su_in {L : List Int} (h : Sam L) : -(1000 * (L.length : Int)) ≤ su ix L ∧ su ix L ≤ 1000 * (L.length : Int) := by
  induction L with
  | nil => simp [su]
  | cons x L ih =>
    have := ih (fun y hy => h y (by simp [hy]))
    have := h x (by simp)
    simp only [su, ix, List.length_cons]
    omega
theorem sq_su_in {L : List Int} (h : Sam L) : 0 ≤ su sq L ∧ su sq L ≤ 1000000 * (L.length : Int) := by
  induction L with
  | nil => simp [su]
  | cons x L ih =>
    have := ih (fun y hy => h y (by simp [hy]))
    have hx := h x (by simp)
    have := sq_in hx.1 hx.2
    simp only [su, sq, List.length_cons]
    omega
theorem take_snoc (L : List Int) (k : Nat) (h : k < L.length) : L.take (k + 1) = L.take k ++ [L.getD k 0] := by
  rw [List.take_succ_eq_append_getElem h, List.getD_eq_getElem?_getD, List.getElem?_eq_getElem h]; rfl
theorem su_next (f : Int → Int) (L : List Int) (k : Nat) (h : k < L.length) : su f (L.take (k + 1)) = su f (L.take k) + f (L.getD k 0) := by
  rw [take_snoc L k h, su_snoc]
/-- the sums of the beginnings -/
def begs (f : Int → Int) (L : List Int) : List Int := (List.range (L.length + 1)).map fun i => su f (L.take i)
theorem begs_len (f : Int → Int) (L : List Int) : (begs f L).length = L.length + 1 := by simp [begs]
theorem begs_at (f : Int → Int) (L : List Int) (i : Nat) (h : i ≤ L.length) : (begs f L).getD i 0 = su f (L.take i) := by
  rw [List.getD_eq_getElem?_getD, begs, List.getElem?_map, List.getElem?_range (by omega)]; rfl
/-- the sum over a part -/
theorem su_part (f : Int → Int) (L : List Int) (i k : Nat) : su f (L.take (i + k)) - su f (L.take i) = su f ((L.drop i).take k) := by
  rw [List.take_add, su_append]; omega
/-- the sum of the squares of the differences to a number -/
theorem dif_nn (L : List Int) (x : Int) : 0 ≤ (L.length : Int) * (x * x) - 2 * x * su ix L + su sq L := by
  induction L with
  | nil => simp [su]
  | cons y L ih =>
    simp only [su, ix, sq, List.length_cons] at *
    have h := sq_nn (x - y)
    have e : ((L.length + 1 : Nat) : Int) * (x * x) - 2 * x * (y + su ix L) + (y * y + su sq L) = ((L.length : Int) * (x * x) - 2 * x * su ix L + su sq L) + (x - y) * (x - y) := by
      rw [show ((L.length + 1 : Nat) : Int) = (L.length : Int) + 1 by omega]; grind
    have e2 : su (fun x => x) L = su ix L := rfl
    have e3 : su (fun x => x * x) L = su sq L := rfl
    rw [e]
    omega
theorem pair_nn (A B : List Int) : 0 ≤ (B.length : Int) * su sq A - 2 * su ix A * su ix B + (A.length : Int) * su sq B := by
  induction A with
  | nil => simp [su]
  | cons x A ih =>
    have h := dif_nn B x
    have e : (B.length : Int) * su sq (x :: A) - 2 * su ix (x :: A) * su ix B + ((x :: A).length : Int) * su sq B =
        ((B.length : Int) * su sq A - 2 * su ix A * su ix B + (A.length : Int) * su sq B) + ((B.length : Int) * (x * x) - 2 * x * su ix B + su sq B) := by
      rw [show ((x :: A).length : Int) = (A.length : Int) + 1 by simp, show su sq (x :: A) = x * x + su sq A from rfl, show su ix (x :: A) = x + su ix A from rfl]; grind
    rw [e]
    omega
/-- the variance -/
def vr (L : List Int) : Int := (L.length : Int) * su sq L - su ix L * su ix L
theorem vr_nn (L : List Int) : 0 ≤ vr L := by
  have := pair_nn L L
  have e : (L.length : Int) * su sq L - 2 * su ix L * su ix L + (L.length : Int) * su sq L = 2 * vr L := by unfold vr; grind
  omega
theorem vr_parts (A B : List Int) : vr A + vr B ≤ vr (A ++ B) := by
  have := pair_nn A B
  have e : vr (A ++ B) = vr A + vr B + ((B.length : Int) * su sq A - 2 * su ix A * su ix B + (A.length : Int) * su sq B) := by
    unfold vr
    rw [su_append, su_append, List.length_append, show ((A.length + B.length : Nat) : Int) = (A.length : Int) + (B.length : Int) by omega]
    grind
  omega
/-- the squares of the differences of a number and those ahead of it -/
def difs (x : Int) : List Int → Int
  | [] => 0
  | y :: L => (x - y) * (x - y) + difs x L
theorem difs_snoc (x : Int) (L : List Int) (y : Int) : difs x (L ++ [y]) = difs x L + (x - y) * (x - y) := by
  induction L with
  | nil => simp [difs]
  | cons z L ih => simp only [List.cons_append, difs, ih]; omega
theorem difs_eq (x : Int) (L : List Int) : difs x L = (L.length : Int) * (x * x) - 2 * x * su ix L + su sq L := by
  induction L with
  | nil => simp [difs, su]
  | cons y L ih =>
    rw [show difs x (y :: L) = (x - y) * (x - y) + difs x L from rfl, ih, show su sq (y :: L) = y * y + su sq L from rfl, show su ix (y :: L) = y + su ix L from rfl, show ((y :: L).length : Int) = (L.length : Int) + 1 by simp]
    grind
theorem vr_snoc (L : List Int) (x : Int) : vr (L ++ [x]) = vr L + difs x L := by
  rw [difs_eq]
  unfold vr
  rw [su_snoc, su_snoc, List.length_append, show ((L.length + [x].length : Nat) : Int) = (L.length : Int) + 1 by simp]
  unfold ix sq
  grind
theorem difs_in {L : List Int} (h : Sam L) {x : Int} (h1 : -1000 ≤ x) (h2 : x ≤ 1000) : 0 ≤ difs x L ∧ difs x L ≤ 4000000 * (L.length : Int) := by
  induction L with
  | nil => simp [difs]
  | cons y L ih =>
    have := ih (fun z hz => h z (by simp [hz]))
    have hy := h y (by simp)
    have a : 0 ≤ (x - y) * (x - y) := sq_nn _
    have b : 0 ≤ (2000 - (x - y)) * (2000 + (x - y)) := Int.mul_nonneg (by omega) (by omega)
    have e : (2000 - (x - y)) * (2000 + (x - y)) = 4000000 - (x - y) * (x - y) := by grind
    simp only [difs, List.length_cons]
    omega
/-- shifted lists -/
theorem su_shift (L : List Int) (b : Int) : su ix (L.map (· + b)) = su ix L + (L.length : Int) * b := by
  induction L with
  | nil => simp [su]
  | cons x L ih =>
    simp only [List.map_cons, su, ih, ix, List.length_cons]
    rw [show ((L.length + 1 : Nat) : Int) = (L.length : Int) + 1 by omega]; grind
theorem sq_shift (L : List Int) (b : Int) : su sq (L.map (· + b)) = su sq L + 2 * b * su ix L + (L.length : Int) * (b * b) := by
  induction L with
  | nil => simp [su]
  | cons x L ih =>
    rw [List.map_cons, show su sq ((x + b) :: L.map (· + b)) = (x + b) * (x + b) + su sq (L.map (· + b)) from rfl, ih, show su sq (x :: L) = x * x + su sq L from rfl, show su ix (x :: L) = x + su ix L from rfl,
      show ((x :: L).length : Int) = (L.length : Int) + 1 by simp]
    grind
theorem vr_shift (L : List Int) (b : Int) : vr (L.map (· + b)) = vr L := by
  unfold vr
  rw [sq_shift, su_shift, List.length_map]
  grind
theorem mul_le2 {n : Int} {a c : Int} (h0 : 0 ≤ n) (h : n ≤ a) (c0 : 0 ≤ c) : n * c ≤ a * c := Int.mul_le_mul_of_nonneg_right h c0
end Go.Proofs.Ytkonknkoggfeaaa.Wi
