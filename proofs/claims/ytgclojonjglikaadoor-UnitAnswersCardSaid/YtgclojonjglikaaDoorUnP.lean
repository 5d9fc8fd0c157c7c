/- What the reference's reading of a decimal keeps: plain facts. -/
import Derived.Test.YtgclojonjglikaaDoorUnitParse
namespace Go.Proofs.YtgclojonjglikaaDoor.Un
open Go.ChangeShapes Go.WideShapes Go.RowKit Wo
set_option linter.unusedVariables false
theorem take_wrong {S : Sc} {c : Nat} (h : S.wrong = true) : (S.take c).wrong = true := by
  unfold Sc.take Sc.digit
  split
  · split <;> exact h
  · split
    · split <;> exact h
    · split
      · exact h
      · rfl
theorem fold_wrong (l : List UInt8) : ∀ S : Sc, S.wrong = true → (l.foldl (fun S c => S.take c.toNat) S).wrong = true := by
  induction l with
  | nil => intro S h; exact h
  | cons c l ih => intro S h; exact ih _ (take_wrong h)
theorem rn_wrong (l : List UInt8) (k : Nat) (h : (rn (l.take k)).wrong = true) : (rn l).wrong = true := by
  have e : rn l = (l.drop k).foldl (fun S c => S.take c.toNat) (rn (l.take k)) := by
    unfold rn
    rw [← List.foldl_append, List.take_append_drop]
  rw [e]
  exact fold_wrong _ _ h
theorem cap_big {n : Int} (h : 1000000000 < n) : 1000000000 < cap n := by unfold cap; split <;> omega
theorem take_big {S : Sc} {c : Nat} (h : 1000000000 < S.digits) : 1000000000 < (S.take c).digits := by
  unfold Sc.take Sc.digit
  split
  · split <;> exact cap_big (by dsimp only; omega)
  · split
    · split <;> exact cap_big (by omega)
    · split
      · exact h
      · exact h
theorem fold_big (l : List UInt8) : ∀ S : Sc, 1000000000 < S.digits → 1000000000 < (l.foldl (fun S c => S.take c.toNat) S).digits := by
  induction l with
  | nil => intro S h; exact h
  | cons c l ih => intro S h; exact ih _ (take_big h)
theorem rn_big (l : List UInt8) (k : Nat) (h : 1000000000 < (rn (l.take k)).digits) : 1000000000 < (rn l).digits := by
  have e : rn l = (l.drop k).foldl (fun S c => S.take c.toNat) (rn (l.take k)) := by
    unfold rn
    rw [← List.foldl_append, List.take_append_drop]
  rw [e]
  exact fold_big _ _ h
/-- what is held of the first k bytes -/
structure Pi (l : List UInt8) (k : Nat) (pt : Int) (z : Bool) : Prop where
  w : (rn (l.take k)).wrong = false
  z : z = !(rn (l.take k)).some
  p : (pt = -1 ∧ (rn (l.take k)).point = false ∧ (rn (l.take k)).whole = (k : Int) ∧ (rn (l.take k)).places = 0) ∨ ∃ i : Nat, i < k ∧ pt = (i : Int) ∧ (rn (l.take k)).point = true ∧ (rn (l.take k)).whole = (i : Int) ∧ (rn (l.take k)).places = (k : Int) - (i : Int) - 1
  ld : (rn (l.take k)).leading = decide (2 ≤ (rn (l.take k)).whole ∧ l.getD 0 0 = 48)
  dg : (rn (l.take k)).point = false → (rn (l.take k)).whole = 1 → ((rn (l.take k)).digits = 0 ↔ l.getD 0 0 = 48)
theorem Pi.nil (l : List UInt8) : Pi l 0 (-1) true := by
  have e : rn (l.take 0) = ⟨0, 0, 0, false, false, false, false⟩ := by simp [rn]
  refine ⟨by rw [e], by rw [e]; rfl, .inl ?_, by rw [e]; simp, by rw [e]; intro _ h; exact absurd h (by decide)⟩
  rw [e]
  exact ⟨rfl, rfl, rfl, rfl⟩
theorem take_at (l : List UInt8) (k : Nat) (h : k < l.length) : rn (l.take (k + 1)) = (rn (l.take k)).take (l.getD k 0).toNat := by
  rw [List.take_succ_eq_append_getElem h, rn_snoc, List.getD_eq_getElem?_getD, List.getElem?_eq_getElem h]; rfl
theorem Pi.bad {l : List UInt8} {k : Nat} {pt : Int} {z : Bool} (h : Pi l k pt z) (hk : k < l.length) (h1 : ¬ ((l.getD k 0).toNat = 46 ∧ pt = -1)) (h2 : (l.getD k 0).toNat < 48 ∨ 57 < (l.getD k 0).toNat) : (rn l).wrong = true := by
  refine rn_wrong l (k + 1) ?_
  rw [take_at l k hk]
  unfold Sc.take
  rw [if_neg (by omega), if_neg (by omega)]
  split
  · rename_i q
    obtain ⟨q1, q2⟩ := q
    rcases h.p with ⟨e, _⟩ | ⟨i, _, _, e, _⟩
    · exact absurd ⟨q1, e⟩ h1
    · rw [e] at q2; cases q2
  · rfl
theorem Pi.dot {l : List UInt8} {k : Nat} {z : Bool} (h : Pi l k (-1) z) (hk : k < l.length) (h1 : (l.getD k 0).toNat = 46) : Pi l (k + 1) (k : Int) z := by
  obtain ⟨hw, hz, hp, hl, hd⟩ := h
  rcases hp with ⟨_, p1, p2, p3⟩ | ⟨i, _, e, _⟩
  · have e : rn (l.take (k + 1)) = { rn (l.take k) with point := true } := by
      rw [take_at l k hk, h1]
      unfold Sc.take
      rw [if_neg (by decide), if_neg (by decide), if_pos ⟨rfl, p1⟩]
    refine ⟨by rw [e]; exact hw, by rw [e]; exact hz, .inr ⟨k, by omega, rfl, by rw [e], by rw [e]; exact p2, by rw [e]; dsimp only; rw [p3]; omega⟩, by rw [e]; exact hl, by rw [e]; intro q; cases q⟩
  · omega
theorem Pi.dig {l : List UInt8} {k : Nat} {pt : Int} {z : Bool} (h : Pi l k pt z) (hk : k < l.length) (h1 : 48 ≤ (l.getD k 0).toNat) (h2 : (l.getD k 0).toNat ≤ 57) : Pi l (k + 1) pt (z && decide ((l.getD k 0).toNat = 48)) := by
  obtain ⟨hw, hz, hp, hl, hd⟩ := h
  obtain ⟨c, hc⟩ : ∃ c, (l.getD k 0).toNat = c := ⟨_, rfl⟩
  have e0 := take_at l k hk
  rw [hc] at h1 h2 e0 ⊢
  obtain ⟨S, hS⟩ : ∃ S, rn (l.take k) = S := ⟨_, rfl⟩
  rw [hS] at hw hz hp hl hd e0
  have hl0 : k = 0 → ((l.getD 0 0 = 48) ↔ c = 48) := fun k0 => by
    subst k0
    rw [← hc]
    constructor
    · intro q; rw [q]; rfl
    · intro q; exact UInt8.toNat_inj.1 q
  have e : rn (l.take (k + 1)) = { S with some := S.some || decide (c ≠ 48) }.digit ((c : Int) - 48) := by
    rw [e0]
    unfold Sc.take
    rcases Nat.lt_or_ge c 49 with q | q
    · obtain rfl : c = 48 := by omega
      rw [if_neg (by omega), if_pos rfl]
      simp
    · rw [if_pos ⟨q, h2⟩]
      have : decide (c ≠ 48) = true := decide_eq_true (by omega)
      rw [this, Bool.or_true]
  have hsm : (rn (l.take (k + 1))).some = (S.some || decide (c ≠ 48)) := by rw [e]; unfold Sc.digit; split <;> rfl
  have hwr : (rn (l.take (k + 1))).wrong = false := by rw [e]; unfold Sc.digit; split <;> exact hw
  have hpt : (rn (l.take (k + 1))).point = S.point := by rw [e]; unfold Sc.digit; split <;> rfl
  have hzz : (z && decide (c = 48)) = !(rn (l.take (k + 1))).some := by
    rw [hsm, hz]
    cases S.some <;> by_cases q : c = 48 <;> simp [q]
  rcases hp with ⟨p0, p1, p2, p3⟩ | ⟨i, i1, i2, i3, i4, i5⟩
  · have hwh : (rn (l.take (k + 1))).whole = (k : Int) + 1 := by rw [e]; unfold Sc.digit; rw [if_neg (by simp [p1])]; show S.whole + 1 = _; rw [p2]
    have hpl : (rn (l.take (k + 1))).places = 0 := by rw [e]; unfold Sc.digit; rw [if_neg (by simp [p1])]; exact p3
    have hle : (rn (l.take (k + 1))).leading = (S.leading || (S.whole == 1 && S.digits == 0)) := by rw [e]; unfold Sc.digit; rw [if_neg (by simp [p1])]
    have hdi : (rn (l.take (k + 1))).digits = cap (10 * S.digits + ((c : Int) - 48)) := by rw [e]; unfold Sc.digit; rw [if_neg (by simp [p1])]
    refine ⟨hwr, hzz, .inl ⟨p0, by rw [hpt, p1], by rw [hwh]; omega, hpl⟩, ?_, ?_⟩
    · rw [hle, hwh, hl, p2, Bool.eq_iff_iff]
      rcases (by omega : k = 0 ∨ k = 1 ∨ 2 ≤ k) with k1 | k1 | k1
      · subst k1
        simp
      · subst k1
        have := hd p1 p2
        simp [this]
      · have h2 : (2 : Int) ≤ (k : Int) := by omega
        have h3 : (2 : Int) ≤ (k : Int) + 1 := by omega
        have h4 : ((k : Int) == 1) = false := by rw [beq_eq_false_iff_ne]; omega
        simp [h2, h3, h4]
    · intro _ q
      rw [hwh] at q
      obtain rfl : k = 0 := by omega
      have hs0 : S = ⟨0, 0, 0, false, false, false, false⟩ := by rw [← hS]; simp [rn]
      rw [hdi, hl0 rfl, hs0]
      unfold cap
      simp
      split <;> omega
  · have hwh : (rn (l.take (k + 1))).whole = (i : Int) := by rw [e]; unfold Sc.digit; rw [if_pos (by simpa using i3)]; exact i4
    have hpl : (rn (l.take (k + 1))).places = (k : Int) - (i : Int) - 1 + 1 := by rw [e]; unfold Sc.digit; rw [if_pos (by simpa using i3)]; show S.places + 1 = _; rw [i5]
    have hle : (rn (l.take (k + 1))).leading = S.leading := by rw [e]; unfold Sc.digit; rw [if_pos (by simpa using i3)]
    refine ⟨hwr, hzz, .inr ⟨i, by omega, i2, by rw [hpt, i3], hwh, by rw [hpl]; omega⟩, by rw [hle, hwh, hl, i4], fun q => ?_⟩
    rw [hpt, i3] at q
    cases q
/-- a digit more -/
theorem dig_val {l : List UInt8} {k : Nat} (hk : k < l.length) (h1 : 48 ≤ (l.getD k 0).toNat) (h2 : (l.getD k 0).toNat ≤ 57) : (rn (l.take (k + 1))).digits = cap (10 * (rn (l.take k)).digits + (((l.getD k 0).toNat : Int) - 48)) := by
  rw [take_at l k hk]
  obtain ⟨c, hc⟩ : ∃ c, (l.getD k 0).toNat = c := ⟨_, rfl⟩
  rw [hc] at h1 h2 ⊢
  unfold Sc.take
  rcases Nat.lt_or_ge c 49 with q | q
  · obtain rfl : c = 48 := by omega
    rw [if_neg (by omega), if_pos rfl]
    unfold Sc.digit
    split <;> simp
  · rw [if_pos ⟨q, h2⟩]
    unfold Sc.digit
    split <;> rfl
theorem dot_val {l : List UInt8} {k : Nat} (hk : k < l.length) (hw : (rn (l.take (k + 1))).wrong = false) (h1 : (l.getD k 0).toNat = 46) : (rn (l.take (k + 1))).digits = (rn (l.take k)).digits := by
  rw [take_at l k hk, h1]
  unfold Sc.take
  rw [if_neg (by decide), if_neg (by decide)]
  split <;> rfl
/-- a byte of a text that is not wrong is a digit or a point -/
theorem byte_ok {l : List UInt8} {k : Nat} (hk : k < l.length) (hw : (rn l).wrong = false) : (l.getD k 0).toNat = 46 ∨ (48 ≤ (l.getD k 0).toNat ∧ (l.getD k 0).toNat ≤ 57) := by
  rcases Nat.lt_or_ge (l.getD k 0).toNat 48 with q | q
  · by_cases g : (l.getD k 0).toNat = 46
    · exact .inl g
    · have : (rn (l.take (k + 1))).wrong = true := by
        rw [take_at l k hk]
        unfold Sc.take
        rw [if_neg (by omega), if_neg (by omega), if_neg (by omega)]
      rw [rn_wrong l _ this] at hw
      cases hw
  · rcases Nat.lt_or_ge 57 (l.getD k 0).toNat with g | g
    · have : (rn (l.take (k + 1))).wrong = true := by
        rw [take_at l k hk]
        unfold Sc.take
        rw [if_neg (by omega), if_neg (by omega), if_neg (by omega)]
      rw [rn_wrong l _ this] at hw
      cases hw
    · exact .inr ⟨q, g⟩
theorem pre_ok {l : List UInt8} (k : Nat) (hw : (rn l).wrong = false) : (rn (l.take k)).wrong = false := by
  rcases h : (rn (l.take k)).wrong with _ | _
  · rfl
  · rw [rn_wrong l k h] at hw; cases hw
theorem prs_wrong {l : List UInt8} {m : Bool} (h : (rn l).wrong = true) : prs (rn l) m = .tuple #[.agg #[.int .i64 0, .int .i64 0], .int .i64 3] := by
  unfold prs rej
  rw [h]; rfl
theorem prs_form {l : List UInt8} {m : Bool} (h : rej (rn l) m = true) : prs (rn l) m = .tuple #[.agg #[.int .i64 0, .int .i64 0], .int .i64 3] := by
  unfold prs
  rw [h]; rfl
theorem prs_range {l : List UInt8} {m : Bool} (h : rej (rn l) m = false) (hd : 1000000000 < (rn l).digits) : prs (rn l) m = .tuple #[.agg #[.int .i64 0, .int .i64 0], .int .i64 1] := by
  unfold prs
  rw [h, if_pos hd]; rfl
theorem prs_fine {l : List UInt8} {m : Bool} (h : rej (rn l) m = false) (hd : ¬ 1000000000 < (rn l).digits) : prs (rn l) m = .tuple #[.agg #[.int .i64 (if m = true then -(rn l).digits else (rn l).digits), .int .i64 (rn l).places], .int .i64 0] := by
  unfold prs
  rw [h, if_neg hd]; rfl
theorem Pi.fin {l : List UInt8} {pt : Int} {z : Bool} (h : Pi l l.length pt z) (m : Bool) : ∃ (N : Nat) (pl : Int), (rn l).places = pl ∧ 0 ≤ pl ∧ ((pt = -1 ∧ N = l.length ∧ pl = 0) ∨ (pt = (N : Int) ∧ N < l.length ∧ pl = (l.length : Int) - (N : Int) - 1)) ∧ (rn l).wrong = false ∧ (0 ≤ pt → (pl < 1 ∨ 6 < pl) → rej (rn l) m = true) ∧ (N = 0 → rej (rn l) m = true) ∧ (2 ≤ N → l.getD 0 0 = 48 → rej (rn l) m = true) ∧ (m = true → z = true → rej (rn l) m = true) ∧ ((pt = -1 ∨ (1 ≤ pl ∧ pl ≤ 6)) → 0 < N → ¬ (2 ≤ N ∧ l.getD 0 0 = 48) → ¬ (m = true ∧ z = true) → rej (rn l) m = false) := by
  obtain ⟨hw, hz, hp, hl, _⟩ := h
  have ht : l.take l.length = l := List.take_of_length_le (Nat.le_refl _)
  rw [ht] at hw hz hp hl
  obtain ⟨S, hS⟩ : ∃ S, rn l = S := ⟨_, rfl⟩
  rw [hS] at hw hz hp hl ⊢
  obtain ⟨a, b, c, p, q, r, u⟩ := S
  dsimp only at hw hz hp hl
  subst hw
  have hzr : r = !z := by rw [hz]; simp
  subst hzr
  rcases hp with ⟨e1, e2, e3, e4⟩ | ⟨i, e0, e1, e2, e3, e4⟩
  · subst e2 e3 e4
    refine ⟨l.length, 0, rfl, by omega, .inl ⟨e1, rfl, rfl⟩, rfl, fun q => by omega, ?_, ?_, ?_, ?_⟩
    · intro q; simp [rej, q]
    · intro q1 q2
      have : (2 : Int) ≤ (l.length : Int) := by omega
      have : q = true := by rw [hl]; exact decide_eq_true ⟨this, q2⟩
      simp [rej, this]
    · intro q1 q2; simp [rej, q1, q2]
    · intro _ q2 q3 q4
      have : q = false := by rw [hl]; exact decide_eq_false (fun ⟨x, y⟩ => q3 ⟨by omega, y⟩)
      have h0 : ¬ l.length = 0 := by omega
      subst this
      rcases m <;> rcases z <;> simp [rej] at q4 ⊢ <;> first | (intro x; simp [x] at q2; done) | exact h0 | omega
  · subst e2 e3 e4
    refine ⟨i, _, rfl, by dsimp only; omega, .inr ⟨e1, e0, rfl⟩, rfl, ?_, ?_, ?_, ?_, ?_⟩
    · intro _ q
      rcases q with q | q
      · have : (l.length : Int) - (i : Int) - 1 = 0 := by dsimp only at q; omega
        simp [rej, this]
      · have : decide (6 < (l.length : Int) - (i : Int) - 1) = true := decide_eq_true q
        simp only [rej, this, Bool.true_or, Bool.or_true]
    · intro q; subst q; simp [rej]
    · intro q1 q2
      have : (2 : Int) ≤ (i : Int) := by omega
      have : q = true := by rw [hl]; exact decide_eq_true ⟨this, q2⟩
      simp [rej, this]
    · intro q1 q2; simp [rej, q1, q2]
    · intro g q2 q3 q4
      have : q = false := by rw [hl]; exact decide_eq_false (fun ⟨x, y⟩ => q3 ⟨by omega, y⟩)
      subst this
      dsimp only at g
      have g0 : ((i : Int) == 0) = false := by rw [beq_eq_false_iff_ne]; omega
      have g1 : ((l.length : Int) - (i : Int) - 1 == 0) = false := by rw [beq_eq_false_iff_ne]; omega
      have g2 : decide (6 < (l.length : Int) - (i : Int) - 1) = false := decide_eq_false (by omega)
      rcases m <;> rcases z <;> simp [rej, g0, g1, g2] at q4 ⊢
end Go.Proofs.YtgclojonjglikaaDoor.Un
