/- Plain facts about sorting readings by time, in place and stably (layer 7): no program here. -/
import Derived.Test.YtgcjangnlbhicaaResMath
namespace Go.Proofs.Ytgcjangnlbhicaa.Rm
set_option linter.unusedVariables false
/-- the i-th reading -/
def rd (l : List Rp) (i : Nat) : Rp := l.getD i (0, 0)
theorem tm_rd (l : List Rp) (i : Nat) : tm l i = (rd l i).1 := rfl
theorem vl_rd (l : List Rp) (i : Nat) : vl l i = (rd l i).2 := rfl
theorem rd_ext {l m : List Rp} (hl : l.length = m.length) (h : ∀ i, i < l.length → rd l i = rd m i) : l = m := by
  apply List.ext_getElem hl
  intro i h1 h2
  have := h i h1
  simpa [rd, List.getD_eq_getElem?_getD, h1, h2] using this
theorem rd_set (l : List Rp) (i j : Nat) (x : Rp) (hi : i < l.length) : rd (l.set i x) j = if j = i then x else rd l j := by
  unfold rd
  rw [List.getD_eq_getElem?_getD, List.getD_eq_getElem?_getD, List.getElem?_set]
  by_cases h : i = j
  · subst h; simp [hi]
  · rw [if_neg h, if_neg (fun e => h e.symm)]
theorem rd_out (l : List Rp) (i : Nat) (h : l.length ≤ i) : rd l i = (0, 0) := by
  unfold rd; rw [List.getD_eq_getElem?_getD, List.getElem?_eq_none h]; rfl
/-- two readings changed for one another -/
def swp (l : List Rp) (i j : Nat) : List Rp := (l.set i (rd l j)).set j (rd l i)
theorem swp_len (l : List Rp) (i j : Nat) : (swp l i j).length = l.length := by simp [swp]
theorem swp_rd (l : List Rp) (i j k : Nat) (hi : i < l.length) (hj : j < l.length) : rd (swp l i j) k = if k = j then rd l i else if k = i then rd l j else rd l k := by
  unfold swp
  rw [rd_set _ _ _ _ (by simpa using hj), rd_set _ _ _ _ hi]
/-- the readings of a time, as they arrived -/
def fl (l : List Rp) (t : Int) : List Rp := l.filter (fun p => decide (p.1 = t))
theorem fl_cons (p : Rp) (l : List Rp) (t : Int) : fl (p :: l) t = if p.1 = t then p :: fl l t else fl l t := by
  unfold fl; rw [List.filter_cons]; by_cases h : p.1 = t <;> simp [h]
theorem fl_app (a b : List Rp) (t : Int) : fl (a ++ b) t = fl a t ++ fl b t := by unfold fl; exact List.filter_append ..
/-- the same readings, those of each time in the same order -/
def Eqv (l l' : List Rp) : Prop := l'.length = l.length ∧ ∀ t, fl l' t = fl l t
theorem Eqv.rf (l : List Rp) : Eqv l l := ⟨rfl, fun _ => rfl⟩
theorem Eqv.tr {a b c : List Rp} (h : Eqv a b) (k : Eqv b c) : Eqv a c := ⟨k.1.trans h.1, fun t => (k.2 t).trans (h.2 t)⟩
theorem fl_adj : ∀ (i : Nat) (l : List Rp), i + 1 < l.length → tm l i ≠ tm l (i + 1) → ∀ t, fl ((l.set i (rd l (i + 1))).set (i + 1) (rd l i)) t = fl l t
  | 0, [], h, _, _ => by simp at h
  | 0, [_], h, _, _ => by simp at h
  | 0, x :: y :: l, _, hn, t => by
    have hn : x.1 ≠ y.1 := hn
    show fl (y :: x :: l) t = fl (x :: y :: l) t
    rw [fl_cons, fl_cons, fl_cons, fl_cons]
    by_cases h1 : x.1 = t
    · have h2 : ¬ y.1 = t := fun e => hn (h1.trans e.symm)
      simp [h1, h2]
    · simp [h1]
  | i + 1, [], h, _, _ => by simp at h
  | i + 1, a :: l, h, hn, t => by
    have ih := fl_adj i l (by simpa using h) hn t
    show fl (a :: ((l.set i (rd l (i + 1))).set (i + 1) (rd l i))) t = fl (a :: l) t
    rw [fl_cons, fl_cons, ih]
theorem eqv_adj (l : List Rp) (i : Nat) (h : i + 1 < l.length) (hn : tm l i ≠ tm l (i + 1)) : Eqv l (swp l i (i + 1)) := ⟨swp_len _ _ _, fl_adj i l h hn⟩
theorem swp_comm (l : List Rp) (i j : Nat) (h : i ≠ j) : swp l i j = swp l j i := by
  unfold swp; exact List.set_comm _ _ h
/-- a part is in order -/
def Srt (l : List Rp) (a b : Nat) : Prop := ∀ p q, a ≤ p → p < q → q < b → tm l p ≤ tm l q
/-- what lies elsewhere is as it was, and in the part are the times that were there -/
def Mv (l l' : List Rp) (a b : Nat) : Prop := Eqv l l' ∧ (∀ p, p < a ∨ b ≤ p → rd l' p = rd l p) ∧ ∀ p, a ≤ p → p < b → ∃ q, a ≤ q ∧ q < b ∧ tm l' p = tm l q
theorem Mv.rf (l : List Rp) (a b : Nat) : Mv l l a b := ⟨Eqv.rf l, fun _ _ => rfl, fun p h1 h2 => ⟨p, h1, h2, rfl⟩⟩
theorem Mv.tr {l m n : List Rp} {a b c d : Nat} (h : Mv l m a b) (k : Mv m n c d) (h1 : a ≤ c) (h2 : d ≤ b) : Mv l n a b :=
  ⟨h.1.tr k.1, fun p hp => (k.2.1 p (by omega)).trans (h.2.1 p hp), fun p h3 h4 => by
    by_cases hc : c ≤ p ∧ p < d
    · obtain ⟨q, q1, q2, e⟩ := k.2.2 p hc.1 hc.2
      obtain ⟨r, r1, r2, e2⟩ := h.2.2 q (by omega) (by omega)
      exact ⟨r, r1, r2, e.trans e2⟩
    · have e : tm n p = tm m p := by rw [tm_rd, tm_rd, k.2.1 p (by omega)]
      obtain ⟨r, r1, r2, e2⟩ := h.2.2 p h3 h4
      exact ⟨r, r1, r2, e.trans e2⟩⟩
theorem Mv.srt {l m : List Rp} {a b c d : Nat} (h : Mv l m a b) (hs : Srt l c d) (hd : d ≤ a ∨ b ≤ c) : Srt m c d := fun p q h1 h2 h3 => by
  rw [tm_rd, tm_rd, h.2.1 p (by omega), h.2.1 q (by omega)]
  exact hs p q h1 h2 h3
theorem mv_swp (l : List Rp) (i a b : Nat) (h1 : a ≤ i) (h2 : i + 1 < b) (h3 : b ≤ l.length) (hn : tm l i ≠ tm l (i + 1)) : Mv l (swp l i (i + 1)) a b := by
  refine ⟨eqv_adj l i (by omega) hn, fun p hp => ?_, fun p h4 h5 => ?_⟩
  · rw [swp_rd _ _ _ _ (by omega) (by omega), if_neg (by omega), if_neg (by omega)]
  · by_cases e1 : p = i + 1
    · exact ⟨i, h1, by omega, by rw [tm_rd, tm_rd, swp_rd _ _ _ _ (by omega) (by omega), if_pos e1]⟩
    · by_cases e2 : p = i
      · exact ⟨i + 1, by omega, h2, by rw [tm_rd, tm_rd, swp_rd _ _ _ _ (by omega) (by omega), if_neg e1, if_pos e2]⟩
      · exact ⟨p, h4, h5, by rw [tm_rd, tm_rd, swp_rd _ _ _ _ (by omega) (by omega), if_neg e1, if_neg e2]⟩
/-- the inner loop of the insertion: all is in order but what is before place j -/
def Ins (l : List Rp) (a i j : Nat) : Prop := ∀ p q, a ≤ p → p < q → q ≤ i → q ≠ j → tm l p ≤ tm l q
theorem ins_start {l : List Rp} {a i : Nat} (h : Srt l a i) : Ins l a i i := fun p q h1 h2 h3 h4 => h p q h1 h2 (by omega)
theorem ins_end {l : List Rp} {a i j : Nat} (h : Ins l a i j) (hj : j ≤ i) (he : j = a ∨ (a < j ∧ tm l (j - 1) ≤ tm l j)) : Srt l a (i + 1) := fun p q h1 h2 h3 => by
  by_cases e : q = j
  · subst e
    rcases he with rfl | ⟨h4, h5⟩
    · omega
    · by_cases e2 : p = q - 1
      · rw [e2]; exact h5
      · exact Int.le_trans (h p (q - 1) h1 (by omega) (by omega) (by omega)) h5
  · exact h p q h1 h2 (by omega) e
theorem ins_step {l : List Rp} {a i j : Nat} (h : Ins l a i (j + 1)) (h1 : a ≤ j) (h2 : j + 1 ≤ i) (h3 : i < l.length) (hlt : tm l (j + 1) < tm l j) : Ins (swp l j (j + 1)) a i j := by
  have E : ∀ k, tm (swp l j (j + 1)) k = if k = j + 1 then tm l j else if k = j then tm l (j + 1) else tm l k := fun k => by
    rw [tm_rd, swp_rd _ _ _ _ (by omega) (by omega)]
    split
    · rfl
    · split <;> rfl
  intro p q g1 g2 g3 g4
  rw [E, E]
  by_cases e1 : q = j + 1
  · rw [if_pos e1]
    by_cases e2 : p = j
    · rw [if_neg (by omega), if_pos e2]; omega
    · rw [if_neg (by omega), if_neg e2]
      exact h p j g1 (by omega) (by omega) (by omega)
  · rw [if_neg e1, if_neg g4]
    by_cases e2 : p = j + 1
    · rw [if_pos e2]
      exact h j q h1 (by omega) g3 e1
    · rw [if_neg e2]
      by_cases e3 : p = j
      · rw [if_pos e3]
        exact h (j + 1) q (by omega) (by omega) g3 e1
      · rw [if_neg e3]
        exact h p q g1 g2 g3 e1
/-- a part exchanged for the part behind it -/
def Rot (l l' : List Rp) (a m b : Nat) : Prop := l'.length = l.length ∧ ∀ p, rd l' p = if p < a then rd l p else if p < a + (b - m) then rd l (p - a + m) else if p < b then rd l (p - (b - m)) else rd l p
theorem rot_id {l : List Rp} {a m b : Nat} (h : a = m ∨ m = b) (h1 : a ≤ m) (h2 : m ≤ b) : Rot l l a m b := ⟨rfl, fun p => by
  split
  · rfl
  · split
    · rw [show p - a + m = p by omega]
    · split
      · rw [show p - (b - m) = p by omega]
      · rfl⟩
theorem rot_eq {l l' : List Rp} {a m b : Nat} (h : Rot l l' a m b) (h1 : a ≤ m) (h2 : m ≤ b) (h3 : b ≤ l.length) :
    l' = l.take a ++ (((l.drop m).take (b - m)) ++ (((l.drop a).take (m - a)) ++ l.drop b)) := by
  have g : ∀ (L : List Rp) i, rd L i = (L[i]?).getD (0, 0) := fun L i => by unfold rd; rw [List.getD_eq_getElem?_getD]
  refine rd_ext (by rw [h.1]; simp; omega) (fun p hp => ?_)
  rw [h.2 p]
  refine Eq.trans ?_ (g _ p).symm
  have e1 : (l.take a).length = a := by simp; omega
  have e2 : ((l.drop m).take (b - m)).length = b - m := by simp; omega
  have e3 : ((l.drop a).take (m - a)).length = m - a := by simp; omega
  by_cases c1 : p < a
  · rw [if_pos c1, List.getElem?_append_left (by omega), List.getElem?_take_of_lt c1]; exact g l p
  · rw [if_neg c1, List.getElem?_append_right (by omega), e1]
    by_cases c2 : p < a + (b - m)
    · rw [if_pos c2, List.getElem?_append_left (by omega), List.getElem?_take_of_lt (by omega), List.getElem?_drop, show m + (p - a) = p - a + m by omega]; exact g l _
    · rw [if_neg c2, List.getElem?_append_right (by omega), e2]
      by_cases c3 : p < b
      · rw [if_pos c3, List.getElem?_append_left (by omega), List.getElem?_take_of_lt (by omega), List.getElem?_drop, show a + (p - a - (b - m)) = p - (b - m) by omega]; exact g l _
      · rw [if_neg c3, List.getElem?_append_right (by omega), e3, List.getElem?_drop, show b + (p - a - (b - m) - (m - a)) = p by omega]; exact g l p
theorem split3 (l : List Rp) (a m b : Nat) (h1 : a ≤ m) (h2 : m ≤ b) : l = l.take a ++ (((l.drop a).take (m - a)) ++ (((l.drop m).take (b - m)) ++ l.drop b)) := by
  have e1 : l.drop m = (l.drop m).take (b - m) ++ l.drop b := by
    have := (List.take_append_drop (b - m) (l.drop m)).symm
    rwa [List.drop_drop, show m + (b - m) = b by omega] at this
  have e2 : l.drop a = (l.drop a).take (m - a) ++ l.drop m := by
    have := (List.take_append_drop (m - a) (l.drop a)).symm
    rwa [List.drop_drop, show a + (m - a) = m by omega] at this
  rw [← e1, ← e2, List.take_append_drop]
theorem fl_none {l : List Rp} {t : Int} (h : ∀ x ∈ l, x.1 ≠ t) : fl l t = [] := by
  unfold fl
  rw [List.filter_eq_nil_iff]
  intro x hx
  simpa using h x hx
theorem mem_pt {l : List Rp} {a k : Nat} {x : Rp} (h : x ∈ (l.drop a).take k) : ∃ j, j < k ∧ a + j < l.length ∧ rd l (a + j) = x := by
  obtain ⟨j, hj, e⟩ := List.mem_iff_getElem.1 h
  have h1 : j < k ∧ a + j < l.length := by rw [List.length_take, List.length_drop] at hj; omega
  refine ⟨j, h1.1, h1.2, ?_⟩
  rw [← e, List.getElem_take, List.getElem_drop]
  unfold rd
  rw [List.getD_eq_getElem?_getD, List.getElem?_eq_getElem h1.2]; rfl
theorem rot_mv {l l' : List Rp} {a m b : Nat} (h : Rot l l' a m b) (h1 : a ≤ m) (h2 : m ≤ b) (h3 : b ≤ l.length) (hd : ∀ p q, a ≤ p → p < m → m ≤ q → q < b → tm l p ≠ tm l q) : Mv l l' a b := by
  refine ⟨⟨h.1, fun t => ?_⟩, fun p hp => ?_, fun p h4 h5 => ?_⟩
  · rw [rot_eq h h1 h2 h3]
    conv => rhs; rw [split3 l a m b h1 h2]
    rw [fl_app, fl_app, fl_app, fl_app, fl_app, fl_app]
    by_cases c : ∃ x ∈ (l.drop a).take (m - a), x.1 = t
    · obtain ⟨x, hx, rfl⟩ := c
      obtain ⟨j, hj, hjl, e⟩ := mem_pt hx
      have : fl ((l.drop m).take (b - m)) x.1 = [] := fl_none (fun y hy => by
        obtain ⟨k, hk, hkl, e2⟩ := mem_pt hy
        have := hd (a + j) (m + k) (by omega) (by omega) (by omega) (by omega)
        rw [tm_rd, tm_rd, e, e2] at this
        exact fun e3 => this e3.symm)
      rw [this]; simp
    · have : fl ((l.drop a).take (m - a)) t = [] := fl_none (fun y hy e => c ⟨y, hy, e⟩)
      rw [this]; simp
  · rw [h.2 p]
    by_cases c1 : p < a
    · rw [if_pos c1]
    · rw [if_neg c1, if_neg (by omega), if_neg (by omega)]
  · by_cases c2 : p < a + (b - m)
    · exact ⟨p - a + m, by omega, by omega, by rw [tm_rd, h.2 p, if_neg (by omega), if_pos c2]; rfl⟩
    · exact ⟨p - (b - m), by omega, by omega, by rw [tm_rd, h.2 p, if_neg (by omega), if_neg c2, if_pos h5]; rfl⟩
/-- one step of the merge: what the search has found, the exchange, and both halves merged -/
theorem sym_done {l l1 l2 l3 : List Rp} {a m b mid s en : Nat} (hm1 : a < m) (hm2 : m < b) (hb : b ≤ l.length) (hs1 : Srt l a m) (hs2 : Srt l m b)
    (g1 : a ≤ s) (g2 : s ≤ m) (g3 : m ≤ en) (g4 : en ≤ b) (g5 : en + s = mid + m) (g6 : s ≤ mid) (g7 : mid ≤ en)
    (f1 : s < m → m < en → tm l (en - 1) < tm l s) (f2 : a < s → en < b → tm l (s - 1) ≤ tm l en)
    (hr : Rot l l1 s m en) (hl : (Mv l1 l2 a mid ∧ Srt l2 a mid) ∨ (l2 = l1 ∧ ¬ (a < s ∧ s < mid))) (hr2 : (Mv l2 l3 mid b ∧ Srt l3 mid b) ∨ (l3 = l2 ∧ ¬ (mid < en ∧ en < b))) :
    Mv l l3 a b ∧ Srt l3 a b := by
  have hd : ∀ p q, s ≤ p → p < m → m ≤ q → q < en → tm l q < tm l p := fun p q h1 h2 h3 h4 => by
    have k1 := f1 (by omega) (by omega)
    have k2 : tm l s ≤ tm l p := by
      by_cases e : p = s
      · rw [e]; exact Int.le_refl _
      · exact hs1 s p g1 (by omega) h2
    have k3 : tm l q ≤ tm l (en - 1) := by
      by_cases e : q = en - 1
      · rw [e]; exact Int.le_refl _
      · exact hs2 q (en - 1) h3 (by omega) (by omega)
    omega
  have M1 : Mv l l1 a b := (Mv.rf l a b).tr (rot_mv hr g2 g3 (by omega) (fun p q h1 h2 h3 h4 => by have := hd p q h1 h2 h3 h4; omega)) g1 g4
  have E : ∀ p, tm l1 p = if p < s then tm l p else if p < mid then tm l (p - s + m) else if p < en then tm l (p - (en - m)) else tm l p := fun p => by
    rw [tm_rd, hr.2 p, show s + (en - m) = mid by omega]
    split
    · rfl
    · split
      · rfl
      · split <;> rfl
  have cross : ∀ p q, a ≤ p → p < mid → mid ≤ q → q < b → tm l1 p ≤ tm l1 q := fun p q h1 h2 h3 h4 => by
    rw [E p, E q]
    rw [if_neg (show ¬ q < s by omega), if_neg (show ¬ q < mid by omega)]
    by_cases c1 : p < s
    · rw [if_pos c1]
      by_cases c2 : q < en
      · rw [if_pos c2]; exact hs1 p (q - (en - m)) h1 (by omega) (by omega)
      · rw [if_neg c2]
        have k1 := f2 (by omega) (by omega)
        have k2 : tm l p ≤ tm l (s - 1) := by
          by_cases e : p = s - 1
          · rw [e]; exact Int.le_refl _
          · exact hs1 p (s - 1) h1 (by omega) (by omega)
        have k3 : tm l en ≤ tm l q := by
          by_cases e : q = en
          · rw [e]; exact Int.le_refl _
          · exact hs2 en q g3 (by omega) h4
        omega
    · rw [if_neg c1, if_pos h2]
      by_cases c2 : q < en
      · rw [if_pos c2]
        exact Int.le_of_lt (hd (q - (en - m)) (p - s + m) (by omega) (by omega) (by omega) (by omega))
      · rw [if_neg c2]
        exact hs2 (p - s + m) q (by omega) (by omega) h4
  have sA : Srt l1 a s := fun p q h1 h2 h3 => by rw [E p, E q, if_pos (by omega), if_pos h3]; exact hs1 p q h1 h2 (by omega)
  have sB : Srt l1 s mid := fun p q h1 h2 h3 => by
    rw [E p, E q, if_neg (by omega), if_pos (by omega), if_neg (by omega), if_pos h3]; exact hs2 _ _ (by omega) (by omega) (by omega)
  have sC : Srt l1 mid en := fun p q h1 h2 h3 => by
    rw [E p, E q, if_neg (by omega), if_neg (by omega), if_pos (by omega), if_neg (by omega), if_neg (by omega), if_pos h3]; exact hs1 _ _ (by omega) (by omega) (by omega)
  have sD : Srt l1 en b := fun p q h1 h2 h3 => by
    rw [E p, E q, if_neg (by omega), if_neg (by omega), if_neg (by omega), if_neg (by omega), if_neg (by omega), if_neg (by omega)]; exact hs2 p q (by omega) h2 h3
  have L2 : Mv l1 l2 a mid ∧ Srt l2 a mid := by
    rcases hl with h | ⟨rfl, h⟩
    · exact h
    · refine ⟨Mv.rf _ _ _, ?_⟩
      rcases (show a = s ∨ mid = s by omega) with e | e
      · rw [e]; exact sB
      · rw [e]; exact sA
  have sC2 : Srt l2 mid en := L2.1.srt sC (by omega)
  have sD2 : Srt l2 en b := L2.1.srt sD (by omega)
  have L3 : Mv l2 l3 mid b ∧ Srt l3 mid b := by
    rcases hr2 with h | ⟨rfl, h⟩
    · exact h
    · refine ⟨Mv.rf _ _ _, ?_⟩
      rcases (show mid = en ∨ b = en by omega) with e | e
      · rw [e]; exact sD2
      · rw [e]; exact sC2
  refine ⟨(M1.tr L2.1 (by omega) (by omega)).tr L3.1 (by omega) (by omega), fun p q h1 h2 h3 => ?_⟩
  have s2 : Srt l3 a mid := L3.1.srt L2.2 (by omega)
  by_cases c1 : q < mid
  · exact s2 p q h1 h2 c1
  · by_cases c2 : mid ≤ p
    · exact L3.2 p q c2 h2 h3
    · have e1 : tm l3 p = tm l2 p := by rw [tm_rd, tm_rd, L3.1.2.1 p (by omega)]
      obtain ⟨q', q1, q2, e2⟩ := L3.1.2.2 q (by omega) h3
      have e3 : tm l2 q' = tm l1 q' := by rw [tm_rd, tm_rd, L2.1.2.1 q' (by omega)]
      obtain ⟨p', p1, p2, e4⟩ := L2.1.2.2 p h1 (by omega)
      rw [e1, e2, e3, e4]
      exact cross p' q' p1 p2 q1 q2
/-- the four parts are in order behind the exchange -/
theorem rot_srt {l l1 : List Rp} {a m b mid s en : Nat} (hs1 : Srt l a m) (hs2 : Srt l m b) (g1 : a ≤ s) (g2 : s ≤ m) (g3 : m ≤ en) (g4 : en ≤ b) (g5 : en + s = mid + m) (g6 : s ≤ mid) (g7 : mid ≤ en) (hr : Rot l l1 s m en) :
    Srt l1 a s ∧ Srt l1 s mid ∧ Srt l1 mid en ∧ Srt l1 en b := by
  have E : ∀ p, tm l1 p = if p < s then tm l p else if p < mid then tm l (p - s + m) else if p < en then tm l (p - (en - m)) else tm l p := fun p => by
    rw [tm_rd, hr.2 p, show s + (en - m) = mid by omega]
    split
    · rfl
    · split
      · rfl
      · split <;> rfl
  refine ⟨fun p q h1 h2 h3 => ?_, fun p q h1 h2 h3 => ?_, fun p q h1 h2 h3 => ?_, fun p q h1 h2 h3 => ?_⟩
  · rw [E p, E q, if_pos (by omega), if_pos h3]; exact hs1 p q h1 h2 (by omega)
  · rw [E p, E q, if_neg (by omega), if_pos (by omega), if_neg (by omega), if_pos h3]; exact hs2 _ _ (by omega) (by omega) (by omega)
  · rw [E p, E q, if_neg (by omega), if_neg (by omega), if_pos (by omega), if_neg (by omega), if_neg (by omega), if_pos h3]; exact hs1 _ _ (by omega) (by omega) (by omega)
  · rw [E p, E q, if_neg (by omega), if_neg (by omega), if_neg (by omega), if_neg (by omega), if_neg (by omega), if_neg (by omega)]; exact hs2 p q (by omega) h2 h3
/-- what the search of the merge says of places in its range -/
def Sea (l : List Rp) (s0 r0 pp s r : Nat) : Prop := s0 ≤ s ∧ s ≤ r ∧ r ≤ r0 ∧ (∀ c, s0 ≤ c → c < s → tm l c ≤ tm l (pp - c)) ∧ ∀ c, r ≤ c → c < r0 → tm l (pp - c) < tm l c
theorem sea_yes {l : List Rp} {a m b s0 r0 pp s r c : Nat} (h : Sea l s0 r0 pp s r) (hs1 : Srt l a m) (hs2 : Srt l m b) (h1 : a ≤ s0) (h2 : r0 ≤ m) (h3 : ∀ c, s0 ≤ c → c < r0 → m ≤ pp - c ∧ pp - c < b ∧ c ≤ pp)
    (c1 : s ≤ c) (c2 : c < r) (hc : tm l c ≤ tm l (pp - c)) : Sea l s0 r0 pp (c + 1) r := by
  obtain ⟨q1, q2, q3, q4, q5⟩ := h
  refine ⟨by omega, by omega, q3, fun d d1 d2 => ?_, q5⟩
  by_cases e : d = c
  · rw [e]; exact hc
  · have k1 := hs1 d c (by omega) (by omega) (by omega)
    have k2 := h3 d d1 (by omega)
    have k3 := h3 c (by omega) (by omega)
    have k4 := hs2 (pp - c) (pp - d) k3.1 (by omega) k2.2.1
    omega
theorem sea_no {l : List Rp} {a m b s0 r0 pp s r c : Nat} (h : Sea l s0 r0 pp s r) (hs1 : Srt l a m) (hs2 : Srt l m b) (h1 : a ≤ s0) (h2 : r0 ≤ m) (h3 : ∀ c, s0 ≤ c → c < r0 → m ≤ pp - c ∧ pp - c < b ∧ c ≤ pp)
    (c1 : s ≤ c) (c2 : c < r) (hc : tm l (pp - c) < tm l c) : Sea l s0 r0 pp s c := by
  obtain ⟨q1, q2, q3, q4, q5⟩ := h
  refine ⟨q1, c1, by omega, q4, fun d d1 d2 => ?_⟩
  by_cases e : d = c
  · rw [e]; exact hc
  · have k1 := hs1 c d (by omega) (by omega) (by omega)
    have k2 := h3 d (by omega) d2
    have k3 := h3 c (by omega) (by omega)
    have k4 := hs2 (pp - d) (pp - c) k2.1 (by omega) k3.2.1
    omega
/-- one reading carried up to a place -/
def Up (l l' : List Rp) (a k : Nat) : Prop := l'.length = l.length ∧ ∀ p, rd l' p = if p < a then rd l p else if p < k then rd l (p + 1) else if p = k then rd l a else rd l p
theorem up_start (l : List Rp) (a : Nat) : Up l l a a := ⟨rfl, fun p => by
  by_cases c1 : p < a
  · rw [if_pos c1]
  · rw [if_neg c1, if_neg c1]
    by_cases c2 : p = a
    · rw [if_pos c2, c2]
    · rw [if_neg c2]⟩
theorem up_step {l l' : List Rp} {a k : Nat} (h : Up l l' a k) (h1 : a ≤ k) (h2 : k + 1 < l.length) : Up l (swp l' k (k + 1)) a (k + 1) := ⟨by rw [swp_len]; exact h.1, fun p => by
  have hl := h.1
  rw [swp_rd _ _ _ _ (by omega) (by omega), h.2 p, h.2 k, h.2 (k + 1)]
  rw [if_neg (show ¬ k < a by omega), if_neg (show ¬ k < k by omega), if_pos rfl, if_neg (show ¬ k + 1 < a by omega), if_neg (show ¬ k + 1 < k by omega), if_neg (show ¬ k + 1 = k by omega)]
  by_cases c0 : p = k + 1
  · rw [if_pos c0, if_neg (by omega), if_neg (by omega), if_pos c0]
  · rw [if_neg c0]
    by_cases c1 : p = k
    · rw [if_pos c1, if_neg (by omega), if_pos (by omega), c1]
    · rw [if_neg c1]
      by_cases c2 : p < a
      · rw [if_pos c2, if_pos c2]
      · rw [if_neg c2, if_neg c2]
        by_cases c3 : p < k
        · rw [if_pos c3, if_pos (by omega)]
        · rw [if_neg c3, if_neg c1, if_neg (show ¬ p < k + 1 by omega), if_neg c0]⟩
theorem up_lt {l l' : List Rp} {a k : Nat} (h : Up l l' a k) (h1 : a ≤ k) (hq : tm l (k + 1) < tm l a) : tm l' k ≠ tm l' (k + 1) := by
  rw [tm_rd, tm_rd, h.2 k, h.2 (k + 1), if_neg (by omega), if_neg (by omega), if_pos rfl, if_neg (by omega), if_neg (by omega), if_neg (by omega)]
  rw [tm_rd, tm_rd] at hq
  omega
theorem up_done {l l' : List Rp} {a i b : Nat} (h : Up l l' a (i - 1)) (h1 : a < i) (h2 : i ≤ b) (hs : Srt l (a + 1) b) (k1 : ∀ q, a + 1 ≤ q → q < i → tm l q < tm l a) (k2 : ∀ q, i ≤ q → q < b → tm l a ≤ tm l q) : Srt l' a b := by
  have E : ∀ p, tm l' p = if p < a then tm l p else if p < i - 1 then tm l (p + 1) else if p = i - 1 then tm l a else tm l p := fun p => by
    rw [tm_rd, h.2 p]
    split
    · rfl
    · split
      · rfl
      · split <;> rfl
  intro p q g1 g2 g3
  rw [E p, E q, if_neg (by omega), if_neg (show ¬ q < a by omega)]
  by_cases c1 : p < i - 1
  · rw [if_pos c1]
    by_cases c2 : q < i - 1
    · rw [if_pos c2]; exact hs _ _ (by omega) (by omega) (by omega)
    · rw [if_neg c2]
      by_cases c3 : q = i - 1
      · rw [if_pos c3]; exact Int.le_of_lt (k1 _ (by omega) (by omega))
      · rw [if_neg c3]; exact hs _ _ (by omega) (by omega) (by omega)
  · rw [if_neg c1, if_neg (show ¬ q < i - 1 by omega), if_neg (show ¬ q = i - 1 by omega)]
    by_cases c3 : p = i - 1
    · rw [if_pos c3]; exact k2 _ (by omega) g3
    · rw [if_neg c3]; exact hs _ _ (by omega) (by omega) (by omega)
/-- one reading carried down to a place -/
def Dn (l l' : List Rp) (m k : Nat) : Prop := l'.length = l.length ∧ ∀ p, rd l' p = if p < k then rd l p else if p = k then rd l m else if p ≤ m then rd l (p - 1) else rd l p
theorem dn_start (l : List Rp) (m : Nat) : Dn l l m m := ⟨rfl, fun p => by
  split
  · rfl
  · split
    · rename_i e; rw [e]
    · rw [if_neg (by omega)]⟩
theorem dn_step {l l' : List Rp} {m k : Nat} (h : Dn l l' m (k + 1)) (h1 : k + 1 ≤ m) (h2 : m < l.length) : Dn l (swp l' k (k + 1)) m k := ⟨by rw [swp_len]; exact h.1, fun p => by
  have hl := h.1
  rw [swp_rd _ _ _ _ (by omega) (by omega), h.2 p, h.2 k, h.2 (k + 1)]
  rw [if_pos (show k < k + 1 by omega), if_neg (show ¬ k + 1 < k + 1 by omega), if_pos rfl]
  by_cases c0 : p = k + 1
  · rw [if_pos c0, if_neg (by omega), if_neg (by omega), if_pos (by omega), show p - 1 = k by omega]
  · rw [if_neg c0]
    by_cases c1 : p = k
    · rw [if_pos c1, if_neg (by omega), if_pos c1]
    · rw [if_neg c1]
      by_cases c2 : p < k + 1
      · rw [if_pos c2, if_pos (show p < k by omega)]
      · rw [if_neg c2, if_neg c0, if_neg (show ¬ p < k by omega), if_neg c1]⟩
theorem dn_lt {l l' : List Rp} {m k : Nat} (h : Dn l l' m (k + 1)) (hq : tm l m < tm l k) : tm l' k ≠ tm l' (k + 1) := by
  rw [tm_rd, tm_rd, h.2 k, h.2 (k + 1), if_pos (by omega), if_neg (by omega), if_pos rfl]
  rw [tm_rd, tm_rd] at hq
  omega
theorem dn_done {l l' : List Rp} {a m i : Nat} (h : Dn l l' m i) (h1 : a ≤ i) (h2 : i ≤ m) (hs : Srt l a m) (k1 : ∀ q, a ≤ q → q < i → tm l q ≤ tm l m) (k2 : ∀ q, i ≤ q → q < m → tm l m < tm l q) : Srt l' a (m + 1) := by
  have E : ∀ p, tm l' p = if p < i then tm l p else if p = i then tm l m else if p ≤ m then tm l (p - 1) else tm l p := fun p => by
    rw [tm_rd, h.2 p]
    split
    · rfl
    · split
      · rfl
      · split <;> rfl
  intro p q g1 g2 g3
  by_cases c1 : q < i
  · have e1 : tm l' p = tm l p := by rw [E p, if_pos (show p < i by omega)]
    have e2 : tm l' q = tm l q := by rw [E q, if_pos c1]
    rw [e1, e2]; exact hs p q g1 g2 (by omega)
  · by_cases c2 : q = i
    · have e1 : tm l' p = tm l p := by rw [E p, if_pos (show p < i by omega)]
      have e2 : tm l' q = tm l m := by rw [E q, if_neg c1, if_pos c2]
      rw [e1, e2]; exact k1 _ g1 (by omega)
    · have e2 : tm l' q = tm l (q - 1) := by rw [E q, if_neg c1, if_neg c2, if_pos (show q ≤ m by omega)]
      rw [e2]
      by_cases c3 : p < i
      · rw [E p, if_pos c3]; exact hs _ _ g1 (by omega) (by omega)
      · by_cases c4 : p = i
        · rw [E p, if_neg c3, if_pos c4]; exact Int.le_of_lt (k2 _ (by omega) (by omega))
        · rw [E p, if_neg c3, if_neg c4, if_pos (show p ≤ m by omega)]; exact hs _ _ (by omega) (by omega) (by omega)
/-- two parts of n readings changed for one another -/
def Sws (l l' : List Rp) (a b n : Nat) : Prop := l'.length = l.length ∧ ∀ p, rd l' p = if a ≤ p ∧ p < a + n then rd l (p + (b - a)) else if b ≤ p ∧ p < b + n then rd l (p - (b - a)) else rd l p
theorem sws_start (l : List Rp) (a b : Nat) : Sws l l a b 0 := ⟨rfl, fun p => by rw [if_neg (by omega), if_neg (by omega)]⟩
theorem sws_step {l l' : List Rp} {a b n : Nat} (h : Sws l l' a b n) (h1 : a + n < b) (h2 : b + n < l.length) : Sws l (swp l' (a + n) (b + n)) a b (n + 1) := ⟨by rw [swp_len]; exact h.1, fun p => by
  have hl := h.1
  rw [swp_rd _ _ _ _ (by omega) (by omega), h.2 p, h.2 (a + n), h.2 (b + n)]
  rw [if_neg (show ¬ (a ≤ a + n ∧ a + n < a + n) by omega), if_neg (show ¬ (b ≤ a + n ∧ a + n < b + n) by omega), if_neg (show ¬ (a ≤ b + n ∧ b + n < a + n) by omega), if_neg (show ¬ (b ≤ b + n ∧ b + n < b + n) by omega)]
  repeat' split
  all_goals first | rfl | (exfalso; omega) | (congr 1; omega)⟩
/-- the loop of the exchange: what has been laid, and what is still to be exchanged -/
def RotI (l c : List Rp) (a m b i j : Nat) : Prop := c.length = l.length ∧ ∀ p, (if p < a then rd l p else if p < a + (b - m) then rd l (p - a + m) else if p < b then rd l (p - (b - m)) else rd l p) = if p < m - i then rd c p else if p < m - i + j then rd c (p + i) else if p < m + j then rd c (p - j) else rd c p
theorem roti_start (l : List Rp) (a m b : Nat) (h1 : a ≤ m) (h2 : m ≤ b) : RotI l l a m b (m - a) (b - m) := ⟨rfl, fun p => by
  rw [show m - (m - a) = a by omega, show m + (b - m) = b by omega]
  by_cases c1 : p < a
  · rw [if_pos c1, if_pos c1]
  · rw [if_neg c1, if_neg c1]
    by_cases c2 : p < a + (b - m)
    · rw [if_pos c2, if_pos c2, show p - a + m = p + (m - a) by omega]
    · rw [if_neg c2, if_neg c2]⟩
theorem roti_more {l c d : List Rp} {a m b i j : Nat} (h : RotI l c a m b i j) (h1 : j < i) (h2 : i ≤ m) (hs : Sws c d (m - i) m j) : RotI l d a m b (i - j) j := ⟨hs.1.trans h.1, fun p => by
  rw [h.2 p]
  simp only [hs.2]
  repeat' split
  all_goals first | rfl | (exfalso; omega) | (congr 1; omega)⟩
theorem roti_less {l c d : List Rp} {a m b i j : Nat} (h : RotI l c a m b i j) (h1 : i < j) (h2 : i ≤ m) (hs : Sws c d (m - i) (m + j - i) i) : RotI l d a m b i (j - i) := ⟨hs.1.trans h.1, fun p => by
  rw [h.2 p]
  simp only [hs.2]
  repeat' split
  all_goals first | rfl | (exfalso; omega) | (congr 1; omega)⟩
theorem roti_end {l c d : List Rp} {a m b i : Nat} (h : RotI l c a m b i i) (h2 : i ≤ m) (hs : Sws c d (m - i) m i) : Rot l d a m b := ⟨hs.1.trans h.1, fun p => by
  rw [h.2 p]
  simp only [hs.2]
  repeat' split
  all_goals first | rfl | (exfalso; omega) | (congr 1; omega)⟩
end Go.Proofs.Ytgcjangnlbhicaa.Rm
