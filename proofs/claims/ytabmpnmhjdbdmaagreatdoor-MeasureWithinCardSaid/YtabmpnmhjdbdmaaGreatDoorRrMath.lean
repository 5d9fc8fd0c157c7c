/- Plain facts about the texts of ratios (layer 1): what Format writes and what Parse makes of a text: no call here. -/
import Derived.Test.YtabmpnmhjdbdmaaGreatDoorRatioMath
import Derived.Lib.ItoaNum
import Derived.Lib.AtoiOr
import Derived.Lib.IndexMore
import Derived.Lib.Bytealg
namespace Go.Proofs.YtabmpnmhjdbdmaaGreatDoor.Rr
open Go.Lib Ra
set_option linter.unusedVariables false
theorem dec_small {u : Nat} (h : u < 10) : decDigits u = [UInt8.ofNat (48 + u)] := by rw [decDigits, dif_pos h]
theorem dec_big {u : Nat} (h : ¬ u < 10) : decDigits u = decDigits (u / 10) ++ [UInt8.ofNat (48 + u % 10)] := by rw [decDigits, dif_neg h]
theorem u8 {d : Nat} (h : d < 10) : (UInt8.ofNat (48 + d)).toNat = 48 + d := by rw [UInt8.toNat_ofNat']; omega
theorem dec_dig (u : Nat) : ∀ c ∈ decDigits u, 48 ≤ c.toNat ∧ c.toNat ≤ 57 := by
  induction u using Nat.strongRecOn with
  | _ u ih =>
    by_cases h : u < 10
    · intro c hc
      rw [dec_small h, List.mem_singleton] at hc
      rw [hc, u8 h]; omega
    · intro c hc
      rw [dec_big h, List.mem_append, List.mem_singleton] at hc
      rcases hc with hc | hc
      · exact ih (u / 10) (by omega) c hc
      · rw [hc, u8 (by omega)]; omega
theorem dec_ne (u : Nat) : decDigits u ≠ [] := by
  intro e
  have h := decDigits_length u
  have := nDigits_pos u
  rw [e] at h; simp at h; omega
theorem p10_cons (acc : Nat) (c : UInt8) (r : List UInt8) (hc : 48 ≤ c.toNat ∧ c.toNat ≤ 57) (h1 : acc < 1844674407370955162) (h2 : acc * 10 + (c.toNat - 48) < 18446744073709551616) : parseUint10 acc (c :: r) = parseUint10 (acc * 10 + (c.toNat - 48)) r := by
  rw [parseUint10, if_pos hc, if_neg (by omega), if_neg (by omega)]
theorem p10_dec (u : Nat) : u < 9223372036854775808 → ∀ r, parseUint10 0 (decDigits u ++ r) = parseUint10 u r := by
  induction u using Nat.strongRecOn with
  | _ u ih =>
    intro hu r
    by_cases h : u < 10
    · have e := u8 h
      rw [dec_small h, List.singleton_append, p10_cons 0 _ r (by rw [e]; omega) (by omega) (by rw [e]; omega), e]
      congr 1; omega
    · have e := u8 (d := u % 10) (by omega)
      rw [dec_big h, List.append_assoc, ih (u / 10) (by omega) (by omega), List.singleton_append, p10_cons _ _ r (by rw [e]; omega) (by omega) (by rw [e]; omega), e]
      congr 1; omega
theorem atoi_dec (u : Nat) (hu : u < 9223372036854775808) : atoiAll (decDigits u) = .ok (u : Int) := by
  obtain ⟨c, t, hd⟩ : ∃ c t, decDigits u = c :: t := by
    rcases h : decDigits u with _ | ⟨c, t⟩
    · exact absurd h (dec_ne u)
    · exact ⟨c, t, rfl⟩
  have hc := dec_dig u c (by rw [hd]; exact List.mem_cons_self)
  have hp := p10_dec u hu []
  rw [List.append_nil, hd] at hp
  rw [hd, atoiAll_plain c t (by omega) (by omega)]
  unfold parseMag
  rw [if_neg (by simp), hp]
  show signless (.ok u) = _
  unfold signless
  simp only
  rw [if_neg (by omega)]
theorem or_dec (u : Nat) (hu : u < 9223372036854775808) : atoiOr (decDigits u) (-1) = (u : Int) := by
  unfold atoiOr
  rw [atoi_dec u hu]
theorem ib_none : ∀ (l : List UInt8), (∀ x ∈ l, 48 ≤ x.toNat ∧ x.toNat ≤ 57) → indexByte l 47 = -1
  | [], _ => rfl
  | b :: l, h => by
    have hb := h b List.mem_cons_self
    have e : (b == 47) = false := by
      rw [beq_eq_false_iff_ne]; rintro rfl
      have : (47 : UInt8).toNat = 47 := rfl
      omega
    rw [indexByte, e, ib_none l (fun x hx => h x (List.mem_cons_of_mem _ hx))]
    rfl
theorem ib_app : ∀ (l r : List UInt8), (∀ x ∈ l, 48 ≤ x.toNat ∧ x.toNat ≤ 57) → indexByte (l ++ 47 :: r) 47 = (l.length : Int)
  | [], r, _ => rfl
  | b :: l, r, h => by
    have hb := h b List.mem_cons_self
    have e : (b == 47) = false := by
      rw [beq_eq_false_iff_ne]; rintro rfl
      have : (47 : UInt8).toNat = 47 := rfl
      omega
    rw [List.cons_append, indexByte, e, ib_app l r (fun x hx => h x (List.mem_cons_of_mem _ hx))]
    have h2 : (((l.length : Int)) == -1) = false := by rw [beq_eq_false_iff_ne]; omega
    rw [h2]
    simp
/-- strings.Cut at "/" -/
def cut47 (l : List UInt8) : List UInt8 × List UInt8 × Bool := if 0 ≤ indexByte l 47 then (l.take (indexByte l 47).toNat, l.drop ((indexByte l 47).toNat + 1), true) else (l, [], false)
/-- the two numbers that Parse reads -/
def pn (l : List UInt8) : Int := atoiOr (cut47 l).1 (-1)
def pd (l : List UInt8) : Int := atoiOr (if (cut47 l).2.2 = true then (cut47 l).2.1 else [49]) (-1)
def fmt (n d : Int) : List UInt8 := if d = 1 then itoa n else itoa n ++ 47 :: itoa d
theorem itoa_pos {n : Int} (h : 0 ≤ n) : itoa n = decDigits n.toNat := by unfold itoa; rw [if_neg (by omega)]
theorem pr_fmt (n d : Int) (h : rv n d = true) : pn (fmt n d) = n ∧ pd (fmt n d) = d := by
  have r := (of_rv h).1
  have h0 := r.1
  have h1 := r.2.1
  have h2 := r.2.2.1
  have h3 := r.2.2.2
  unfold pn pd fmt
  by_cases hd : d = 1
  · rw [if_pos hd, itoa_pos h0]
    have e : cut47 (decDigits n.toNat) = (decDigits n.toNat, [], false) := by
      unfold cut47; rw [ib_none _ (dec_dig _)]; rfl
    rw [e]
    refine ⟨?_, ?_⟩
    · show atoiOr (decDigits n.toNat) (-1) = n
      rw [or_dec _ (by omega)]; omega
    · show atoiOr [49] (-1) = d
      rw [hd, show ([49] : List UInt8) = decDigits 1 by rw [dec_small (by omega)]; rfl, or_dec _ (by omega)]; rfl
  · rw [if_neg hd, itoa_pos h0, itoa_pos (by omega : 0 ≤ d)]
    have e : cut47 (decDigits n.toNat ++ 47 :: decDigits d.toNat) = (decDigits n.toNat, decDigits d.toNat, true) := by
      unfold cut47
      rw [ib_app _ _ (dec_dig _), if_pos (by omega), Int.toNat_natCast, List.take_left' rfl]
      have : (decDigits n.toNat ++ 47 :: decDigits d.toNat).drop ((decDigits n.toNat).length + 1) = decDigits d.toNat := by
        rw [List.drop_append, List.drop_of_length_le (by omega)]
        simp
      rw [this]
    rw [e]
    refine ⟨?_, ?_⟩
    · show atoiOr (decDigits n.toNat) (-1) = n
      rw [or_dec _ (by omega)]; omega
    · show atoiOr (decDigits d.toNat) (-1) = d
      rw [or_dec _ (by omega)]; omega
theorem dd_len : ∀ u : Nat, u ≤ 2305843009213693952 → (decDigits u).length ≤ 19 := by
  intro u hu
  have k : ∀ k u, k < nDigits u → 10 ^ k ≤ u ∨ k = 0 := by
    intro k
    induction k with
    | zero => intro u _; exact .inr rfl
    | succ k ih =>
      intro u hu
      by_cases h10 : u < 10
      · rw [nDigits_small h10] at hu; omega
      · rw [nDigits_big h10] at hu
        rcases ih (u / 10) (by omega) with h2 | h2
        · left; rw [Nat.pow_succ]; omega
        · left; subst h2; simp; omega
  rw [decDigits_length]
  rcases Nat.lt_or_ge 19 (nDigits u) with h | h
  · exfalso
    rcases k 19 u h with h2 | h2
    · have : (10 : Nat) ^ 19 = 10000000000000000000 := by decide
      omega
    · omega
  · exact h
theorem fmt_len (n d : Int) (h : rv n d = true) : (fmt n d).length ≤ 60 := by
  have r := (of_rv h).1
  have h0 := r.1
  have h1 := r.2.1
  have h2 := r.2.2.1
  have h3 := r.2.2.2
  have key : ∀ u : Nat, u ≤ 2305843009213693952 → nDigits u ≤ 19 := by
    intro u hu
    have k : ∀ k u, k < nDigits u → 10 ^ k ≤ u ∨ k = 0 := by
      intro k
      induction k with
      | zero => intro u _; exact .inr rfl
      | succ k ih =>
        intro u hu
        by_cases h10 : u < 10
        · rw [nDigits_small h10] at hu; omega
        · rw [nDigits_big h10] at hu
          rcases ih (u / 10) (by omega) with h2 | h2
          · left; rw [Nat.pow_succ]; omega
          · left; subst h2; simp; omega
    rcases Nat.lt_or_ge 19 (nDigits u) with h | h
    · exfalso
      rcases k 19 u h with h2 | h2
      · have : (10 : Nat) ^ 19 = 10000000000000000000 := by decide
        omega
      · omega
    · exact h
  have k1 := key n.toNat (by omega)
  have k2 := key d.toNat (by omega)
  unfold fmt
  rw [itoa_pos h0, itoa_pos (by omega : 0 ≤ d)]
  split
  · rw [decDigits_length]; omega
  · rw [List.length_append, List.length_cons, decDigits_length, decDigits_length]; omega
end Go.Proofs.YtabmpnmhjdbdmaaGreatDoor.Rr
