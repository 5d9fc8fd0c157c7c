/- Beginnings of the bytes of readings. -/
import Derived.Test.YtdkibffbaamkkaaPkB2
namespace Go.Proofs.Ytdkibffbaamkkaa.Pk
open Go.ChangeShapes Go.WideShapes Go.RowKit Wo Sr Wi Rm Rg Cd Cr By
theorem pk_split (l : List Rp) : ∀ (m : List Rp) (t v : Int) (R : List Nat), Vp l → Vp m → l.length ≤ m.length → 0 ≤ t → t ≤ 1099511627776 → -1000 ≤ v → v ≤ 1000 → pk l t v ++ R = pk m t v →
    ∃ r, m = l ++ r ∧ R = pk r (ls l (t, v)).1 (ls l (t, v)).2 := by
  induction l with
  | nil => intro m t v R _ _ _ _ _ _ _ h; exact ⟨m, rfl, h⟩
  | cons p s ih =>
    intro m t v R h1 h2 hl t0 t1 v0 v1 he
    cases m with
    | nil => simp at hl
    | cons q r =>
      have a := h1 p (by simp)
      have b := h2 q (by simp)
      rw [pk, pk, List.append_assoc, List.append_assoc] at he
      obtain ⟨e1, he⟩ := bytes_inj (by unfold In64; omega) (by unfold In64; omega) he
      obtain ⟨e2, he⟩ := bytes_inj (by unfold In64; omega) (by unfold In64; omega) he
      have e3 : p = q := Prod.ext (by omega) (by omega)
      subst e3
      obtain ⟨r', h3, h4⟩ := ih r p.1 p.2 R (fun x hx => h1 x (by simp [hx])) (fun x hx => h2 x (by simp [hx])) (by simpa using hl) a.1 a.2.1 a.2.2.1 a.2.2.2 he
      exact ⟨r', by rw [h3]; rfl, h4⟩
theorem ls_la (l : List Rp) : ls l (0, 0) = la l l.length := by
  have := last_take l l.length (Nat.le_refl _)
  rwa [List.take_of_length_le (Nat.le_refl _)] at this
/-- what a body says, if it is one -/
def Says (L : List Nat) : Prop := ∃ l : List Rp, Vrs l ∧ l.length ≤ 2000 ∧ L.drop 3 = bytesOf (l.length : Int) ++ pk l 0 0
theorem says_count {L : List Nat} {n : Int} {R : List Nat} (h : Says L) (hn : In64 n) (he : L.drop 3 = bytesOf n ++ R) : 0 ≤ n ∧ n ≤ 2000 := by
  obtain ⟨l, hv, hl, hd⟩ := h
  rw [hd] at he
  have := (bytes_inj (by unfold In64; omega) hn he).1
  omega
/-- behind the readings of s, of k in all, stands a reading more -/
theorem says_more {L R : List Nat} {k : Nat} {s : List Rp} (h : Says L) (hk : k ≤ 2000) (hs : Vrs s) (hlt : s.length < k) (he : L.drop 3 = bytesOf (k : Int) ++ (pk s 0 0 ++ R)) :
    ∃ T V R', Vr T V ∧ R = bytesOf (T - (la s s.length).1) ++ (bytesOf (V - (la s s.length).2) ++ R') := by
  obtain ⟨l, hv, hl, hd⟩ := h
  rw [hd] at he
  obtain ⟨e1, he⟩ := bytes_inj (by unfold In64; omega) (by unfold In64; omega) he
  obtain ⟨r, h3, h4⟩ := pk_split s l 0 0 R (vrs_vp hs) (vrs_vp hv) (by omega) (by decide) (by decide) (by decide) (by decide) he.symm
  rw [ls_la] at h4
  cases r with
  | nil => subst h3; simp at e1; omega
  | cons p r =>
    have hp := vrs_vp hv p (by rw [h3]; simp)
    exact ⟨p.1, p.2, pk r p.1 p.2, hp, h4⟩
theorem says_end {L R : List Nat} {k : Nat} {s : List Rp} (h : Says L) (hk : k ≤ 2000) (hs : Vrs s) (hlt : s.length = k) (he : L.drop 3 = bytesOf (k : Int) ++ (pk s 0 0 ++ R)) : R = [] := by
  obtain ⟨l, hv, hl, hd⟩ := h
  rw [hd] at he
  obtain ⟨e1, he⟩ := bytes_inj (by unfold In64; omega) (by unfold In64; omega) he
  obtain ⟨r, h3, h4⟩ := pk_split s l 0 0 R (vrs_vp hs) (vrs_vp hv) (by omega) (by decide) (by decide) (by decide) (by decide) he.symm
  cases r with
  | nil => exact h4
  | cons p r => subst h3; simp at e1; omega
theorem vrs_snoc2 {l : List Rp} (h : Vrs l) (a b : Int) (hv : Vr a b) : Vrs (l ++ [(a, b)]) := by
  have hp := vrs_vp h
  intro i hi
  rcases Nat.lt_or_ge i l.length with h2 | h2
  · have := h i h2
    unfold tm vl at this ⊢
    rw [List.getD_eq_getElem?_getD, List.getElem?_append_left h2]
    rwa [List.getD_eq_getElem?_getD] at this
  · have e : i = l.length := by simp at hi; omega
    subst e
    unfold tm vl
    rw [List.getD_eq_getElem?_getD, List.getElem?_append_right (Nat.le_refl _)]
    simpa using hv
theorem pk_more (s : List Rp) (T V : Int) : pk (s ++ [(T, V)]) 0 0 = pk s 0 0 ++ (bytesOf (T - (la s s.length).1) ++ bytesOf (V - (la s s.length).2)) := by
  rw [pk_snoc, ls_la]
theorem la_snoc (s : List Rp) (p : Rp) : la (s ++ [p]) (s ++ [p]).length = p := by
  rw [← ls_la, ls_snoc]
end Go.Proofs.Ytdkibffbaamkkaa.Pk
