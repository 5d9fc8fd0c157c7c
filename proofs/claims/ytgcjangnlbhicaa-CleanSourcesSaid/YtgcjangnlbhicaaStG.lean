/- Plain facts of groups: the times of readings, ascending; the runs of a sorted row. -/
import Derived.Test.YtgcjangnlbhicaaStM
namespace Go.Proofs.Ytgcjangnlbhicaa.Rm
set_option linter.unusedVariables false
/-- numbers that ascend -/
def Up1 : List Int → Prop
  | [] => True
  | [_] => True
  | a :: b :: L => a < b ∧ Up1 (b :: L)
def ins (t : Int) : List Int → List Int
  | [] => [t]
  | a :: L => if t < a then t :: a :: L else if t = a then a :: L else a :: ins t L
theorem mem_ins (t x : Int) : ∀ L : List Int, x ∈ ins t L ↔ x = t ∨ x ∈ L
  | [] => by simp [ins]
  | a :: L => by
    unfold ins
    split
    · simp
    · split
      · rename_i h; subst h; simp
      · rw [List.mem_cons, mem_ins t x L, List.mem_cons]
        constructor
        · rintro (h | h | h)
          · exact .inr (.inl h)
          · exact .inl h
          · exact .inr (.inr h)
        · rintro (h | h | h)
          · exact .inr (.inl h)
          · exact .inl h
          · exact .inr (.inr h)
/-- every element ahead of the later ones -/
def Asc1 (L : List Int) : Prop := L.Pairwise (· < ·)
theorem asc_ins (t : Int) : ∀ L : List Int, Asc1 L → Asc1 (ins t L)
  | [], _ => by simp [ins, Asc1]
  | a :: L, h => by
    unfold Asc1 at h
    obtain ⟨h1, h2⟩ := List.pairwise_cons.1 h
    unfold ins
    split
    · rename_i k
      refine List.pairwise_cons.2 ⟨fun x hx => ?_, h⟩
      rcases List.mem_cons.1 hx with rfl | hx
      · exact k
      · exact Int.lt_trans k (h1 x hx)
    · split
      · exact h
      · refine List.pairwise_cons.2 ⟨fun x hx => ?_, asc_ins t L h2⟩
        rcases (mem_ins t x L).1 hx with rfl | hx
        · omega
        · exact h1 x hx
theorem asc_one : ∀ (L M : List Int), Asc1 L → Asc1 M → (∀ x, x ∈ L ↔ x ∈ M) → L = M
  | [], [], _, _, _ => rfl
  | [], b :: M, _, _, h => by have := (h b).2 (by simp); cases this
  | a :: L, [], _, _, h => by have := (h a).1 (by simp); cases this
  | a :: L, b :: M, h1, h2, h => by
    obtain ⟨a1, a2⟩ := List.pairwise_cons.1 h1
    obtain ⟨b1, b2⟩ := List.pairwise_cons.1 h2
    have e : a = b := by
      rcases List.mem_cons.1 ((h a).1 (by simp)) with e | e
      · exact e
      · rcases List.mem_cons.1 ((h b).2 (by simp)) with f | f
        · exact f.symm
        · have := a1 b f; have := b1 a e; omega
    subst e
    refine congrArg _ (asc_one L M a2 b2 fun x => ⟨fun hx => ?_, fun hx => ?_⟩)
    · rcases List.mem_cons.1 ((h x).1 (List.mem_cons_of_mem _ hx)) with e | e
      · have := a1 x hx; omega
      · exact e
    · rcases List.mem_cons.1 ((h x).2 (List.mem_cons_of_mem _ hx)) with e | e
      · have := b1 x hx; omega
      · exact e
/-- the times of readings, ascending, each once -/
def uts (l : List Rp) : List Int := l.foldr (fun p L => ins p.1 L) []
theorem uts_asc (l : List Rp) : Asc1 (uts l) := by
  induction l with
  | nil => exact List.Pairwise.nil
  | cons p l ih => exact asc_ins _ _ ih
theorem mem_uts (l : List Rp) (t : Int) : t ∈ uts l ↔ ∃ p ∈ l, p.1 = t := by
  induction l with
  | nil => simp [uts]
  | cons p l ih =>
    show t ∈ ins p.1 (uts l) ↔ _
    rw [mem_ins, ih]
    constructor
    · rintro (h | ⟨q, hq, e⟩)
      · exact ⟨p, by simp, h.symm⟩
      · exact ⟨q, by simp [hq], e⟩
    · rintro ⟨q, hq, e⟩
      rcases List.mem_cons.1 hq with rfl | hq
      · exact .inl e.symm
      · exact .inr ⟨q, hq, e⟩
theorem mem_fl {l : List Rp} {t : Int} : t ∈ uts l ↔ fl l t ≠ [] := by
  rw [mem_uts]
  unfold fl
  constructor
  · rintro ⟨p, hp, e⟩ h
    have : p ∈ l.filter (fun p => decide (p.1 = t)) := List.mem_filter.2 ⟨hp, by simp [e]⟩
    rw [h] at this; cases this
  · intro h
    obtain ⟨p, hp⟩ := List.exists_mem_of_ne_nil _ h
    obtain ⟨h1, h2⟩ := List.mem_filter.1 hp
    exact ⟨p, h1, by simpa using h2⟩
theorem eqv_uts {l s : List Rp} (h : Eqv l s) : uts s = uts l := asc_one _ _ (uts_asc _) (uts_asc _) fun x => by rw [mem_fl, mem_fl, h.2 x]
/-- the runs of a row up to a place -/
inductive Bs (s : List Rp) : List (Nat × Nat) → Nat → Prop
  | nil : Bs s [] 0
  | snoc {B : List (Nat × Nat)} {f t : Nat} : Bs s B f → f < t → t ≤ s.length → (∀ q, f ≤ q → q < t → tm s q = tm s f) → (t < s.length → tm s t ≠ tm s f) → Bs s (B ++ [(f, t)]) t
def piece (s : List Rp) (p : Nat × Nat) : List Rp := (s.drop p.1).take (p.2 - p.1)
theorem piece_len {s : List Rp} {f t : Nat} (h : t ≤ s.length) (h2 : f ≤ t) : (piece s (f, t)).length = t - f := by simp [piece]; omega
theorem piece_rd {s : List Rp} {f t : Nat} (j : Nat) (hj : j < t - f) (ht : t ≤ s.length) : rd (piece s (f, t)) j = rd s (f + j) := by
  unfold rd piece
  simp only [List.getD_eq_getElem?_getD]
  rw [List.getElem?_take_of_lt hj, List.getElem?_drop]
theorem Bs.le {s : List Rp} {B : List (Nat × Nat)} {f : Nat} (h : Bs s B f) : f ≤ s.length := by cases h <;> omega
theorem bs_len {s : List Rp} {B : List (Nat × Nat)} {f : Nat} (h : Bs s B f) : B.length ≤ f := by
  induction h with
  | nil => simp
  | snoc h1 h2 h3 h4 h5 ih => rw [List.length_append, List.length_singleton]; omega
theorem bs_in {s : List Rp} {B : List (Nat × Nat)} {f : Nat} (h : Bs s B f) : ∀ p ∈ B, p.1 < p.2 ∧ p.2 ≤ s.length := by
  induction h with
  | nil => intro p hp; cases hp
  | snoc h1 h2 h3 h4 h5 ih =>
    intro p hp
    rcases List.mem_append.1 hp with hp | hp
    · exact ih p hp
    · have e := List.mem_singleton.1 hp
      subst e
      exact ⟨h2, h3⟩
theorem mem_at {s : List Rp} {x : Rp} (h : x ∈ s) : ∃ j, j < s.length ∧ rd s j = x := by
  obtain ⟨j, hj, e⟩ := List.getElem_of_mem h
  exact ⟨j, hj, by unfold rd; rw [List.getD_eq_getElem?_getD, List.getElem?_eq_getElem hj]; exact e⟩
theorem at_mem {s : List Rp} {j : Nat} (h : j < s.length) : rd s j ∈ s := by
  unfold rd; rw [List.getD_eq_getElem?_getD, List.getElem?_eq_getElem h]; exact List.getElem_mem h
theorem piece_fl {s : List Rp} {f t : Nat} (hft : f < t) (ht : t ≤ s.length) (h1 : ∀ q, q < f → tm s q ≠ tm s f) (h2 : ∀ q, f ≤ q → q < t → tm s q = tm s f) (h3 : ∀ q, t ≤ q → q < s.length → tm s q ≠ tm s f) : piece s (f, t) = fl s (tm s f) := by
  have e := split3 s f t t (Nat.le_of_lt hft) (Nat.le_refl _)
  have : fl s (tm s f) = fl (s.take f ++ (((s.drop f).take (t - f)) ++ (((s.drop t).take (t - t)) ++ s.drop t))) (tm s f) := congrArg (fun x => fl x (tm s f)) e
  rw [this, fl_app, fl_app, fl_app]
  rw [fl_none (l := s.take f) (t := tm s f) (fun x hx => by
    obtain ⟨j, hj, e⟩ := mem_at hx
    rw [List.length_take] at hj
    have : rd (s.take f) j = rd s j := by unfold rd; simp only [List.getD_eq_getElem?_getD]; rw [List.getElem?_take_of_lt (by omega)]
    rw [this] at e; rw [← e]; exact h1 j (by omega))]
  rw [fl_none (l := s.drop t) (t := tm s f) (fun x hx => by
    obtain ⟨j, hj, e⟩ := mem_at hx
    rw [List.length_drop] at hj
    have : rd (s.drop t) j = rd s (t + j) := by unfold rd; simp only [List.getD_eq_getElem?_getD]; rw [List.getElem?_drop]
    rw [this] at e; rw [← e]; exact h3 (t + j) (by omega) (by omega))]
  have e0 : (s.drop t).take (t - t) = [] := by rw [Nat.sub_self, List.take_zero]
  rw [e0]
  show _ = [] ++ (fl (piece s (f, t)) _ ++ ([] ++ []))
  rw [List.nil_append, List.append_nil, List.append_nil]
  unfold fl
  symm
  rw [List.filter_eq_self]
  intro x hx
  obtain ⟨j, hj, e⟩ := mem_at hx
  rw [piece_len ht (by omega)] at hj
  rw [piece_rd j hj ht] at e
  have := h2 (f + j) (by omega) (by omega)
  rw [← e]
  rw [tm_rd, tm_rd] at this
  exact decide_eq_true (by rw [this]; rfl)
theorem bs_facts {s : List Rp} {B : List (Nat × Nat)} {f : Nat} (hs : Srt s 0 s.length) (h : Bs s B f) :
    Asc1 (B.map (fun p => tm s p.1)) ∧ (∀ x, x ∈ B.map (fun p => tm s p.1) ↔ ∃ q, q < f ∧ tm s q = x) ∧ (∀ p ∈ B, piece s p = fl s (tm s p.1)) ∧ (∀ q, q < f → f < s.length → tm s q < tm s f) := by
  induction h with
  | nil => exact ⟨List.Pairwise.nil, fun x => by simp, (fun p hp => by cases hp), fun q hq => by omega⟩
  | @snoc B f t h1 h2 h3 h4 h5 ih =>
    obtain ⟨i1, i2, i3, i4⟩ := ih
    have lt_t : ∀ q, q < t → t < s.length → tm s q < tm s t := fun q hq ht => by
      have hne := h5 ht
      have := hs f t (by omega) h2 ht
      rcases Nat.lt_or_ge q f with k | k
      · have := i4 q k (by omega); omega
      · rw [h4 q k hq]; omega
    refine ⟨?_, fun x => ?_, fun p hp => ?_, lt_t⟩
    · rw [List.map_append]
      refine List.pairwise_append.2 ⟨i1, by simp, fun a ha b hb => ?_⟩
      obtain ⟨q, hq, rfl⟩ := (i2 a).1 ha
      simp at hb
      subst hb
      exact i4 q hq (by omega)
    · rw [List.map_append, List.mem_append, i2 x]
      simp
      constructor
      · rintro (⟨q, hq, e⟩ | e)
        · exact ⟨q, by omega, e⟩
        · exact ⟨f, h2, e.symm⟩
      · rintro ⟨q, hq, e⟩
        rcases Nat.lt_or_ge q f with k | k
        · exact .inl ⟨q, k, e⟩
        · exact .inr (by rw [← e, h4 q k hq])
    · rcases List.mem_append.1 hp with hp | hp
      · exact i3 p hp
      · have e := List.mem_singleton.1 hp
        subst e
        refine piece_fl h2 h3 (fun q hq => by have := i4 q hq (by omega); omega) h4 fun q hq hn => ?_
        have a := lt_t f h2 (by omega)
        rcases Nat.lt_or_ge t q with k | k
        · have := hs t q (by omega) k hn; omega
        · obtain rfl : q = t := by omega
          omega
/-- the readings of each time -/
def grs (l : List Rp) : List (List Rp) := (uts l).map (fl l)
theorem bs_done {l s : List Rp} {B : List (Nat × Nat)} {n : Nat} (hn : s.length = n) (he : Eqv l s) (hs : Srt s 0 n) (h : Bs s B n) : B.map (piece s) = grs l := by
  subst hn
  obtain ⟨h1, h2, h3, _⟩ := bs_facts hs h
  have e : B.map (fun p => tm s p.1) = uts s := asc_one _ _ h1 (uts_asc _) fun x => by
    rw [h2 x, mem_uts]
    constructor
    · rintro ⟨q, hq, e⟩; exact ⟨rd s q, at_mem hq, e⟩
    · rintro ⟨p, hp, e⟩
      obtain ⟨j, hj, e2⟩ := mem_at hp
      exact ⟨j, hj, by rw [tm_rd, e2]; exact e⟩
  unfold grs
  rw [← eqv_uts he, ← e, List.map_map]
  refine List.map_congr_left fun p hp => ?_
  rw [h3 p hp]
  exact he.2 _
theorem grs_pos {l : List Rp} {q : List Rp} (h : q ∈ grs l) : 0 < q.length := by
  obtain ⟨t, ht, rfl⟩ := List.mem_map.1 h
  exact List.length_pos_iff.2 (mem_fl.1 ht)
end Go.Proofs.Ytgcjangnlbhicaa.Rm
