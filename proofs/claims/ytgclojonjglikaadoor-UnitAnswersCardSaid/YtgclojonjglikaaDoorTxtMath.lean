/- Plain facts about the texts of decimals (layer 4): what Format writes and what the scan of Parse makes of it: no call here. -/
import Derived.Test.YtgclojonjglikaaDoorUnitParse
import Derived.Lib.ItoaNum
import Derived.Lib.Repeat
namespace Go.Proofs.YtgclojonjglikaaDoor.Un
open Go.Lib
set_option linter.unusedVariables false
def isD (c : UInt8) : Prop := 48 ≤ c.toNat ∧ c.toNat ≤ 57
def allD (l : List UInt8) : Prop := ∀ c ∈ l, isD c
/-- the number of a list of digits -/
def val (l : List UInt8) : Nat := l.foldl (fun v c => 10 * v + (c.toNat - 48)) 0
theorem val_snoc (l : List UInt8) (c : UInt8) : val (l ++ [c]) = 10 * val l + (c.toNat - 48) := by simp [val]
def nz (l : List UInt8) : Bool := l.any fun c => c != 48
theorem nz_snoc (l : List UInt8) (c : UInt8) : nz (l ++ [c]) = (nz l || c != 48) := by simp [nz]
def ld (l : List UInt8) : Bool := decide (2 ≤ l.length) && (l.head? == some 48)
def capN (n : Nat) : Int := cap (n : Int)
theorem u8_eq {c : UInt8} (h : c.toNat = 48) : c = 48 := UInt8.toNat_inj.1 (by simpa using h)
theorem u8_of {d : Nat} (h : d < 10) : (UInt8.ofNat (48 + d)).toNat = 48 + d := by rw [UInt8.toNat_ofNat']; omega
theorem cap_step (n d : Nat) : cap (10 * capN n + (d : Int)) = capN (10 * n + d) := by
  unfold capN cap
  split <;> split <;> split <;> omega
theorem snoc_ind {P : List UInt8 → Prop} (h0 : P []) (h1 : ∀ l c, P l → P (l ++ [c])) (l : List UInt8) : P l := by
  have : ∀ n (l : List UInt8), l.length = n → P l := by
    intro n
    induction n with
    | zero => intro l h; rw [List.eq_nil_of_length_eq_zero h]; exact h0
    | succ n ih =>
      intro l h
      have hne : l ≠ [] := by intro e; rw [e] at h; simp at h
      rw [← List.dropLast_concat_getLast hne]
      exact h1 _ _ (ih _ (by simp [h]))
  exact this _ l rfl
theorem allD_snoc {l : List UInt8} {c : UInt8} (h : allD (l ++ [c])) : allD l ∧ isD c := ⟨fun x hx => h x (by simp [hx]), h c (by simp)⟩
/-- what a digit does -/
theorem take_digit (S : Sc) (c : UInt8) (h : isD c) : S.take c.toNat = ({ S with some := S.some || c != 48 }).digit (((c.toNat - 48 : Nat) : Int)) := by
  unfold isD at h
  unfold Sc.take
  rcases Nat.lt_or_ge 48 c.toNat with h1 | h1
  · rw [if_pos ⟨by omega, h.2⟩]
    have hn : (c != 48) = true := by
      rw [bne_iff_ne]; intro e; rw [e] at h1; simp at h1
    rw [hn, Bool.or_true]
    congr 1
    omega
  · have e : c.toNat = 48 := by omega
    rw [if_neg (by omega), if_pos e, u8_eq e]
    simp
theorem ld_snoc (l : List UInt8) (c : UInt8) (h : allD l) : ld (l ++ [c]) = (ld l || ((l.length : Int) == 1 && capN (val l) == 0)) := by
  match l, h with
  | [], _ => simp [ld]
  | [x], h =>
    have hx := h x (by simp)
    unfold isD at hx
    have hc : capN (val [x]) = ((x.toNat - 48 : Nat) : Int) := by
      unfold capN cap val
      simp
      intro hh; omega
    rw [hc]
    simp [ld]
    by_cases e : x = 48
    · subst e; rfl
    · have e2 : x.toNat ≠ 48 := fun h => e (u8_eq h)
      rw [beq_eq_false_iff_ne.2 e]
      symm
      rw [beq_eq_false_iff_ne]
      omega
  | x :: y :: l, _ =>
    have e : ((((x :: y :: l).length : Nat) : Int) == 1) = false := by simp; omega
    rw [e]
    simp [ld]
/-- the scan of digits -/
theorem rn_digits (l : List UInt8) : allD l → rn l = ⟨capN (val l), l.length, 0, false, ld l, nz l, false⟩ := by
  refine snoc_ind (P := fun l => allD l → rn l = ⟨capN (val l), l.length, 0, false, ld l, nz l, false⟩) ?_ ?_ l
  · intro _; rfl
  · intro l c ih h
    obtain ⟨h1, h2⟩ := allD_snoc h
    rw [rn_snoc, ih h1, take_digit _ c h2, val_snoc, nz_snoc, ld_snoc l c h1, ← cap_step]
    simp [Sc.digit]
/-- the scan of digits, a point, and digits -/
theorem rn_point (A : List UInt8) (hA : allD A) (B : List UInt8) : allD B → rn (A ++ 46 :: B) = ⟨capN (val (A ++ B)), A.length, B.length, true, ld A, nz (A ++ B), false⟩ := by
  refine snoc_ind (P := fun B => allD B → rn (A ++ 46 :: B) = ⟨capN (val (A ++ B)), A.length, B.length, true, ld A, nz (A ++ B), false⟩) ?_ ?_ B
  · intro _
    rw [List.append_nil, show A ++ 46 :: [] = A ++ [46] from rfl, rn_snoc, rn_digits A hA]
    show Sc.take _ 46 = _
    unfold Sc.take
    simp
  · intro l c ih h
    obtain ⟨h1, h2⟩ := allD_snoc h
    rw [show A ++ 46 :: (l ++ [c]) = (A ++ 46 :: l) ++ [c] by simp, rn_snoc, ih h1, take_digit _ c h2, ← List.append_assoc, val_snoc, nz_snoc, ← cap_step]
    simp [Sc.digit]
theorem take_wrong (S : Sc) (c : Nat) (h : S.wrong = true) : (S.take c).wrong = true := by
  unfold Sc.take
  split
  · unfold Sc.digit; split <;> exact h
  · split
    · unfold Sc.digit; split <;> exact h
    · split
      · exact h
      · rfl
/-- what is not refused for a sign that does not belong there -/
theorem rn_shape (l : List UInt8) : (rn l).wrong = false → allD l ∨ ∃ A B, l = A ++ 46 :: B ∧ allD A ∧ allD B := by
  refine snoc_ind (P := fun l => (rn l).wrong = false → allD l ∨ ∃ A B, l = A ++ 46 :: B ∧ allD A ∧ allD B) ?_ ?_ l
  · intro _; exact .inl (by simp [allD])
  · intro l c ih h
    rw [rn_snoc] at h
    have hw : (rn l).wrong = false := by
      rcases hx : (rn l).wrong
      · rfl
      · have := take_wrong _ c.toNat hx; rw [this] at h; cases h
    have hc : isD c ∨ (c = 46 ∧ (rn l).point = false) := by
      rcases Nat.lt_or_ge c.toNat 48 with h1 | h1
      · by_cases h2 : c.toNat = 46 ∧ (rn l).point = false
        · exact .inr ⟨UInt8.toNat_inj.1 (by simpa using h2.1), h2.2⟩
        · unfold Sc.take at h
          rw [if_neg (by omega), if_neg (by omega), if_neg h2] at h
          cases h
      · rcases Nat.lt_or_ge 57 c.toNat with h2 | h2
        · unfold Sc.take at h
          rw [if_neg (by omega), if_neg (by omega), if_neg (by omega)] at h
          cases h
        · exact .inl ⟨h1, h2⟩
    rcases ih hw with hd | ⟨A, B, rfl, hA, hB⟩
    · rcases hc with hc | ⟨rfl, _⟩
      · exact .inl (fun x hx => by
          rcases List.mem_append.1 hx with h' | h'
          · exact hd x h'
          · simp at h'; subst h'; exact hc)
      · exact .inr ⟨l, [], rfl, hd, by simp [allD]⟩
    · rcases hc with hc | ⟨_, hp⟩
      · refine .inr ⟨A, B ++ [c], by simp, hA, fun x hx => ?_⟩
        rcases List.mem_append.1 hx with h' | h'
        · exact hB x h'
        · simp at h'; subst h'; exact hc
      · rw [rn_point A hA B hB] at hp; cases hp
/-- the digits of a number -/
theorem dec_small {u : Nat} (h : u < 10) : decDigits u = [UInt8.ofNat (48 + u)] := by rw [decDigits, dif_pos h]
theorem dec_big {u : Nat} (h : ¬ u < 10) : decDigits u = decDigits (u / 10) ++ [UInt8.ofNat (48 + u % 10)] := by rw [decDigits, dif_neg h]
theorem dec_facts (u : Nat) : allD (decDigits u) ∧ val (decDigits u) = u ∧ nz (decDigits u) = decide (1 ≤ u) ∧ (1 ≤ u → ∀ c, (decDigits u).head? = some c → c ≠ 48) := by
  induction u using Nat.strongRecOn with
  | _ u ih =>
    by_cases h : u < 10
    · rw [dec_small h]
      have e := u8_of h
      refine ⟨?_, ?_, ?_, ?_⟩
      · intro c hc; rw [List.mem_singleton.1 hc]; unfold isD; omega
      · simp only [val, List.foldl_cons, List.foldl_nil]; omega
      · simp only [nz, List.any_cons, List.any_nil, Bool.or_false]
        rcases Nat.eq_zero_or_pos u with h0 | h0
        · subst h0; rfl
        · rw [decide_eq_true (by omega : 1 ≤ u), bne_iff_ne]
          intro e2; rw [e2] at e; have : (48 : UInt8).toNat = 48 := rfl; omega
      · intro h1 c hc e2
        injection hc with hc
        rw [hc, e2] at e
        have : (48 : UInt8).toNat = 48 := rfl
        omega
    · rw [dec_big h]
      obtain ⟨a, b, c, d⟩ := ih (u / 10) (by omega)
      have e := u8_of (show u % 10 < 10 by omega)
      refine ⟨?_, ?_, ?_, ?_⟩
      · intro x hx
        rcases List.mem_append.1 hx with h' | h'
        · exact a x h'
        · rw [List.mem_singleton.1 h']; unfold isD; omega
      · rw [val_snoc, b, e]; omega
      · rw [nz_snoc, c, decide_eq_true (by omega : 1 ≤ u / 10), decide_eq_true (by omega : 1 ≤ u)]; rfl
      · intro h1 x hx
        refine d (by omega) x ?_
        have hl : 0 < (decDigits (u / 10)).length := by rw [decDigits_length]; exact nDigits_pos _
        rcases hd : decDigits (u / 10) with _ | ⟨y, t⟩
        · rw [hd] at hl; simp at hl
        · rw [hd] at hx; simpa using hx
/-- a list of digits is the digits of its number behind zeros -/
theorem digits_form (D : List UInt8) : allD D → D ≠ [] → D = List.replicate (D.length - nDigits (val D)) 48 ++ decDigits (val D) ∧ nDigits (val D) ≤ D.length := by
  refine snoc_ind (P := fun D => allD D → D ≠ [] → D = List.replicate (D.length - nDigits (val D)) 48 ++ decDigits (val D) ∧ nDigits (val D) ≤ D.length) ?_ ?_ D
  · intro _ h; exact absurd rfl h
  · intro l c ih h _
    obtain ⟨h1, h2⟩ := allD_snoc h
    have hcb : c.toNat - 48 < 10 := by unfold isD at h2; omega
    have hc : UInt8.ofNat (48 + (c.toNat - 48)) = c := by
      apply UInt8.toNat_inj.1
      rw [u8_of hcb]; unfold isD at h2; omega
    rw [val_snoc, List.length_append]
    by_cases hl : l = []
    · subst hl
      have e0 : val [] = 0 := rfl
      rw [e0, Nat.mul_zero, Nat.zero_add, nDigits_small hcb, dec_small hcb, hc]
      exact ⟨rfl, by simp⟩
    · obtain ⟨e, hle⟩ := ih h1 hl
      have hlen : 0 < l.length := List.length_pos_iff.2 hl
      rcases Nat.eq_zero_or_pos (val l) with h0 | h0
      · rw [h0] at e ⊢
        have e1 : decDigits 0 = [48] := by rw [dec_small (by omega)]; rfl
        rw [e1, nDigits_small (by omega)] at e
        rw [Nat.mul_zero, Nat.zero_add, nDigits_small hcb, dec_small hcb, hc]
        refine ⟨?_, by simp⟩
        have : l = List.replicate l.length 48 := by
          conv => lhs; rw [e]
          have : l.length = (l.length - 1) + 1 := by omega
          conv => rhs; rw [this, List.replicate_succ']
        conv => lhs; rw [this]
        simp
      · have hb : ¬ 10 * val l + (c.toNat - 48) < 10 := by omega
        rw [nDigits_big hb, dec_big hb, show (10 * val l + (c.toNat - 48)) / 10 = val l by omega, show (10 * val l + (c.toNat - 48)) % 10 = c.toNat - 48 by omega, hc]
        refine ⟨?_, by simp; omega⟩
        rw [show l.length + [c].length - (nDigits (val l) + 1) = l.length - nDigits (val l) by simp, ← List.append_assoc, ← e]
end Go.Proofs.YtgclojonjglikaaDoor.Un
