/- Plain facts about the runs of a list of values, some of which are missing. -/
import Derived.Lib.Hide
namespace Go.Proofs.Ytaplbkfmedofcaa.Se
set_option linter.unusedVariables false
/-- what the iterator of runs yields from the place i on, with c values in a row behind it -/
def rns : List Int → Nat → Nat → List (Nat × Nat)
  | [], i, c => if 0 < c then [(i - c, c)] else []
  | v :: vs, i, c => if v = 1073741824 then (if 0 < c then (i - c, c) :: rns vs (i + 1) 0 else rns vs (i + 1) 0) else rns vs (i + 1) (c + 1)
def pres (V : List Int) (i : Nat) : Bool := decide (V.getD i 1073741824 ≠ 1073741824)
/-- a window of m values begins at i -/
def good (V : List Int) (m i : Nat) : Bool := decide (i + m ≤ V.length ∧ ∀ j, j < m → V.getD (i + j) 1073741824 ≠ 1073741824)
/-- the starts that a run gives -/
def ofRun (m : Nat) (r : Nat × Nat) : List Nat := (List.range (r.2 + 1 - m)).map (r.1 + ·)
def sts (V : List Int) (m : Nat) : List Nat := (rns V 0 0).flatMap (ofRun m)
theorem good_iff {V : List Int} {m i : Nat} : good V m i = true ↔ (i + m ≤ V.length ∧ ∀ j, j < m → V.getD (i + j) 1073741824 ≠ 1073741824) := by
  unfold good; exact decide_eq_true_iff
theorem filt {p : Nat → Bool} (a c m : Nat) (hm : 1 ≤ m) (h : ∀ s, a ≤ s → s ≤ a + c → (p s = true ↔ s + m ≤ a + c)) : (List.range' a (c + 1)).filter p = ofRun m (a, c) := by
  unfold ofRun
  have e : c + 1 = (c + 1 - m) + (c + 1 - (c + 1 - m)) := by omega
  rw [e, ← List.range'_append_1, List.filter_append]
  have h1 : (List.range' a (c + 1 - m)).filter p = List.range' a (c + 1 - m) := by
    apply List.filter_eq_self.2
    intro x hx
    rw [List.mem_range'_1] at hx
    exact (h x (by omega) (by omega)).2 (by omega)
  have h2 : (List.range' (a + (c + 1 - m)) (c + 1 - (c + 1 - m))).filter p = [] := by
    apply List.filter_eq_nil_iff.2
    intro x hx hp
    rw [List.mem_range'_1] at hx
    have := (h x (by omega) (by omega)).1 hp
    omega
  rw [h1, h2, List.append_nil]
  have e2 : (c + 1 - m) + (c + 1 - (c + 1 - m)) - m = c + 1 - m := by omega
  show _ = List.map (a + ·) (List.range (c + 1 - m + (c + 1 - (c + 1 - m)) - m))
  rw [e2, List.range'_eq_map_range]
theorem getD_out (V : List Int) (i : Nat) (h : V.length ≤ i) : V.getD i 1073741824 = 1073741824 := by
  rw [List.getD_eq_getElem?_getD, List.getElem?_eq_none h]; rfl
theorem sts_from (W : List Int) (m : Nat) (hm : 1 ≤ m) : ∀ (vs : List Int) (i c : Nat), W.drop i = vs → W.length = i + vs.length → c ≤ i → (∀ q, i - c ≤ q → q < i → W.getD q 1073741824 ≠ 1073741824) → (rns vs i c).flatMap (ofRun m) = (List.range' (i - c) (W.length + 1 - (i - c))).filter (good W m)
  | [], i, c, hd, hl, hc, hp => by
    have hl : W.length = i := by simpa using hl
    have e : W.length + 1 - (i - c) = c + 1 := by omega
    rw [e, filt (i - c) c m hm]
    · unfold rns
      split
      · simp
      · have : c = 0 := by omega
        subst this
        simp [ofRun]
        omega
    · intro s h1 h2
      rw [good_iff]
      constructor
      · intro h; omega
      · intro h; exact ⟨by omega, fun j hj => hp _ (by omega) (by omega)⟩
  | v :: vs, i, c, hd, hl, hc, hp => by
    have hl : W.length = i + 1 + vs.length := by simp at hl; omega
    have hil : i < W.length := by omega
    have hv : W.getD i 1073741824 = v := by
      rw [List.getD_eq_getElem?_getD, List.getElem?_eq_getElem hil]
      rw [List.drop_eq_getElem_cons hil] at hd
      injection hd
    have hd2 : W.drop (i + 1) = vs := by
      rw [List.drop_eq_getElem_cons hil] at hd
      injection hd
    unfold rns
    by_cases hvm : v = 1073741824
    · rw [if_pos hvm]
      have ih := sts_from W m hm vs (i + 1) 0 hd2 hl (by omega) (fun q h1 h2 => by omega)
      have e : W.length + 1 - (i - c) = (c + 1) + (W.length + 1 - (i + 1)) := by omega
      have e1 : i - c + (c + 1) = i + 1 := by omega
      have hf : (List.range' (i - c) (c + 1)).filter (good W m) = ofRun m (i - c, c) := by
        apply filt (i - c) c m hm
        intro s h1 h2
        rw [good_iff]
        constructor
        · intro h
          rcases Nat.lt_or_ge (i - c + c) (s + m) with h3 | h3
          · exfalso
            have := h.2 (i - s) (by omega)
            rw [show s + (i - s) = i by omega, hv] at this
            exact this hvm
          · omega
        · intro h; exact ⟨by omega, fun j hj => hp _ (by omega) (by omega)⟩
      rw [e, ← List.range'_append_1, List.filter_append, hf, e1]
      rw [Nat.sub_zero] at ih
      rw [← ih]
      split
      · simp
      · have : c = 0 := by omega
        subst this
        have : ofRun m (i - 0, 0) = [] := by simp [ofRun]; omega
        rw [this]; rfl
    · rw [if_neg hvm]
      have ih := sts_from W m hm vs (i + 1) (c + 1) hd2 hl (by omega) (fun q h1 h2 => by
        rcases Nat.lt_or_ge q i with h3 | h3
        · exact hp q (by omega) h3
        · rw [show q = i by omega, hv]; exact hvm)
      rw [show i + 1 - (c + 1) = i - c by omega] at ih
      exact ih
theorem sts_eq (V : List Int) (m : Nat) (hm : 1 ≤ m) : sts V m = (List.range (V.length + 1)).filter (good V m) := by
  have := sts_from V m hm V 0 0 rfl (by omega) (by omega) (fun q h1 h2 => by omega)
  rw [List.range_eq_range']
  exact this
theorem sts_mem {V : List Int} {m i : Nat} (hm : 1 ≤ m) : i ∈ sts V m ↔ good V m i = true := by
  rw [sts_eq V m hm, List.mem_filter, List.mem_range]
  constructor
  · intro h; exact h.2
  · intro h; exact ⟨by have := (good_iff.1 h).1; omega, h⟩
theorem sts_asc (V : List Int) (m : Nat) (hm : 1 ≤ m) : (sts V m).Pairwise (· < ·) := by
  rw [sts_eq V m hm]
  exact List.pairwise_lt_range.filter _
theorem sts_lt {V : List Int} {m : Nat} (hm : 1 ≤ m) {i : Nat} (hi : i + 1 < (sts V m).length) : (sts V m).getD i 0 < (sts V m).getD (i + 1) 0 := by
  have h := List.pairwise_iff_getElem.1 (sts_asc V m hm) i (i + 1) (by omega) hi (by omega)
  simp only [List.getD_eq_getElem?_getD, List.getElem?_eq_getElem (show i < (sts V m).length by omega), List.getElem?_eq_getElem hi]
  exact h
theorem good_less {V : List Int} {m i : Nat} (h : good V (m + 1) i = true) : good V m i = true := by
  rw [good_iff] at h ⊢
  exact ⟨by omega, fun j hj => h.2 j (by omega)⟩
theorem filter_len {p q : Nat → Bool} (h : ∀ x, p x = true → q x = true) : ∀ l : List Nat, (l.filter p).length ≤ (l.filter q).length
  | [] => Nat.le_refl _
  | y :: l => by
    have ih := filter_len h l
    rw [List.filter_cons, List.filter_cons]
    cases hp : p y
    · rw [if_neg (by decide)]
      split
      · rw [List.length_cons]; omega
      · exact ih
    · rw [h y hp, if_pos rfl, if_pos rfl, List.length_cons, List.length_cons]; omega
theorem sts_len (V : List Int) (m : Nat) (hm : 1 ≤ m) : (sts V (m + 1)).length ≤ (sts V m).length := by
  rw [sts_eq V m hm, sts_eq V (m + 1) (by omega)]
  exact filter_len (fun x h => good_less h) _
theorem sts_small (V : List Int) (m : Nat) (hm : 1 ≤ m) : (sts V m).length ≤ V.length + 1 := by
  rw [sts_eq V m hm]
  have := List.length_filter_le (good V m) (List.range (V.length + 1))
  simpa using this
theorem sts_in {V : List Int} {m : Nat} (hm : 1 ≤ m) (x : Nat) (hx : x ∈ sts V m) : x + m ≤ V.length := by
  rw [sts_mem hm, good_iff] at hx
  exact hx.1
/-- how many values are there -/
def cnt (V : List Int) : Nat := V.countP (fun v => decide (v ≠ 1073741824))
theorem rns_sum : ∀ (vs : List Int) (i c : Nat), ((rns vs i c).map Prod.snd).sum = c + cnt vs
  | [], i, c => by
    unfold rns cnt
    split
    · simp
    · have : c = 0 := by omega
      subst this; simp
  | v :: vs, i, c => by
    unfold rns
    by_cases hv : v = 1073741824
    · rw [if_pos hv]
      have ih := rns_sum vs (i + 1) 0
      have e : cnt (v :: vs) = cnt vs := by simp [cnt, hv]
      rw [e]
      split
      · simp [ih]
      · have : c = 0 := by omega
        subst this; simp [ih]
    · rw [if_neg hv, rns_sum vs (i + 1) (c + 1)]
      have e : cnt (v :: vs) = cnt vs + 1 := by simp [cnt, hv]
      rw [e]; omega
theorem sts_one (V : List Int) : (sts V 1).length = cnt V := by
  have := rns_sum V 0 0
  unfold sts
  rw [List.length_flatMap]
  have e : (rns V 0 0).map (fun a => (ofRun 1 a).length) = (rns V 0 0).map Prod.snd := by
    apply List.map_congr_left
    intro a _
    simp [ofRun]
  rw [e, this]; omega
theorem cnt_app (A B : List Int) : cnt (A ++ B) = cnt A + cnt B := by simp [cnt]
theorem cnt_rep (k : Nat) : cnt (List.replicate k 1073741824) = 0 := by
  unfold cnt
  rw [List.countP_replicate]
  simp
/-- runs in order: each behind the end e of the one before it, with the values there -/
def Asc (W : List Int) : Int → List (Nat × Nat) → Prop
  | _, [] => True
  | e, r :: rs => e < (r.1 : Int) ∧ 1 ≤ r.2 ∧ r.1 + r.2 ≤ W.length ∧ (∀ j, j < r.2 → W.getD (r.1 + j) 1073741824 ≠ 1073741824) ∧ Asc W ((r.1 : Int) + r.2) rs
theorem asc_from (W : List Int) : ∀ (vs : List Int) (i c : Nat) (e : Int), W.drop i = vs → W.length = i + vs.length → c ≤ i → (∀ q, i - c ≤ q → q < i → W.getD q 1073741824 ≠ 1073741824) → e < ((i - c : Nat) : Int) → Asc W e (rns vs i c)
  | [], i, c, e, hd, hl, hc, hp, he => by
    have hl : W.length = i := by simpa using hl
    unfold rns
    split
    · exact ⟨he, by omega, by show i - c + c ≤ _; omega, fun j hj => hp _ (by show i - c ≤ i - c + j; omega) (by show i - c + j < i; have : j < c := hj; omega), trivial⟩
    · trivial
  | v :: vs, i, c, e, hd, hl, hc, hp, he => by
    have hl : W.length = i + 1 + vs.length := by simp at hl; omega
    have hil : i < W.length := by omega
    have hv : W.getD i 1073741824 = v := by
      rw [List.getD_eq_getElem?_getD, List.getElem?_eq_getElem hil]
      rw [List.drop_eq_getElem_cons hil] at hd
      injection hd
    have hd2 : W.drop (i + 1) = vs := by
      rw [List.drop_eq_getElem_cons hil] at hd
      injection hd
    unfold rns
    by_cases hvm : v = 1073741824
    · rw [if_pos hvm]
      split
      · exact ⟨he, by omega, by show i - c + c ≤ _; omega, fun j hj => hp _ (by show i - c ≤ i - c + j; omega) (by show i - c + j < i; have : j < c := hj; omega), asc_from W vs (i + 1) 0 _ hd2 hl (by omega) (fun q h1 h2 => by omega) (by show ((i - c : Nat) : Int) + (c : Int) < _; omega)⟩
      · exact asc_from W vs (i + 1) 0 e hd2 hl (by omega) (fun q h1 h2 => by omega) (by omega)
    · rw [if_neg hvm]
      exact asc_from W vs (i + 1) (c + 1) e hd2 hl (by omega) (fun q h1 h2 => by
        rcases Nat.lt_or_ge q i with h3 | h3
        · exact hp q (by omega) h3
        · rw [show q = i by omega, hv]; exact hvm) (by omega)
theorem asc_all (V : List Int) : Asc V (-1) (rns V 0 0) := asc_from V V 0 0 (-1) rfl (by omega) (by omega) (fun q h1 h2 => by omega) (by omega)
/-- a window of a cut is one of the series -/
theorem good_drop {V : List Int} {m i j : Nat} (hi : i ≤ V.length) : good (V.drop i) m j = good V m (i + j) := by
  unfold good
  congr 1
  apply propext
  have e : ∀ q, (V.drop i).getD q 1073741824 = V.getD (i + q) 1073741824 := fun q => by simp [List.getD_eq_getElem?_getD]
  rw [List.length_drop]
  constructor
  · rintro ⟨h1, h2⟩
    exact ⟨by omega, fun q hq => by have := h2 q hq; rwa [e, ← Nat.add_assoc] at this⟩
  · rintro ⟨h1, h2⟩
    exact ⟨by omega, fun q hq => by rw [e, ← Nat.add_assoc]; exact h2 q hq⟩
end Go.Proofs.Ytaplbkfmedofcaa.Se
