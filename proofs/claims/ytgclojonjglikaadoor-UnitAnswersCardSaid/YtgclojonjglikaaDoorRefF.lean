/- ref04.Format of valid decimals, and how its text is read. -/
import Derived.Test.YtgclojonjglikaaDoorRefD
import Derived.Test.YtgclojonjglikaaDoorUnitBad
namespace Go.Proofs.YtgclojonjglikaaDoor.Rd1
open Go.ChangeShapes Go.WideShapes Go.RowKit Wo Un
set_option linter.unusedVariables false
theorem u8_49 : UInt8.ofNat (48 + 1) = 49 := rfl
/-- the places, behind a 1 -/
theorem dec_one : ∀ (p r : Nat), r < 10 ^ p → ∃ B, Lib.decDigits (10 ^ p + r) = 49 :: B ∧ B.length = p ∧ allD B ∧ val B = r
  | 0, r, h => by
    have : r = 0 := by simpa using h
    subst this
    refine ⟨[], ?_, rfl, fun c hc => by simp at hc, rfl⟩
    show Lib.decDigits 1 = [49]
    rw [dec_small (by omega)]; rfl
  | p + 1, r, h => by
    have hp : 10 ^ (p + 1) = 10 * 10 ^ p := by rw [Nat.pow_succ, Nat.mul_comm]
    have hpos : 0 < 10 ^ p := Nat.pos_of_ne_zero (by exact Nat.pos_iff_ne_zero.1 (Nat.pow_pos (by omega)))
    obtain ⟨B, h1, h2, h3, h4⟩ := dec_one p (r / 10) (by omega)
    have e1 : (10 ^ (p + 1) + r) / 10 = 10 ^ p + r / 10 := by omega
    have e2 : (10 ^ (p + 1) + r) % 10 = r % 10 := by omega
    refine ⟨B ++ [UInt8.ofNat (48 + r % 10)], ?_, by simp [h2], ?_, ?_⟩
    · rw [dec_big (by omega), e1, e2, h1]; rfl
    · intro c hc
      rcases List.mem_append.1 hc with hc | hc
      · exact h3 c hc
      · have : c = UInt8.ofNat (48 + r % 10) := by simpa using hc
        rw [this]; unfold isD; rw [u8_of (by omega)]; omega
    · rw [val_snoc, h4, u8_of (by omega)]; omega
theorem val_app (A : List UInt8) : ∀ B : List UInt8, val (A ++ B) = val A * 10 ^ B.length + val B := by
  intro B
  refine snoc_ind (P := fun B => val (A ++ B) = val A * 10 ^ B.length + val B) ?_ ?_ B
  · simp [val]
  · intro l c ih
    rw [← List.append_assoc, val_snoc, val_snoc, ih, List.length_append, List.length_singleton, Nat.pow_succ]
    grind
/-- what ref04.Format writes of a number without its sign -/
def rb (n p : Nat) : List UInt8 := if p = 0 then Lib.decDigits n else Lib.decDigits (n / 10 ^ p) ++ 46 :: (Lib.decDigits (10 ^ p + n % 10 ^ p)).drop 1
def rt (x : Int) (p : Nat) : List UInt8 := if x < 0 then 45 :: rb x.natAbs p else rb x.natAbs p
theorem rb_char (n p : Nat) : ∀ c ∈ rb n p, c = 46 ∨ isD c := by
  intro c hc
  unfold rb at hc
  split at hc
  · exact .inr ((dec_facts n).1 c hc)
  · obtain ⟨B, h1, h2, h3, h4⟩ := dec_one p (n % 10 ^ p) (Nat.mod_lt _ (Nat.pow_pos (by omega)))
    rw [h1] at hc
    rcases List.mem_append.1 hc with h | h
    · exact .inr ((dec_facts _).1 c h)
    · rcases List.mem_cons.1 h with h | h
      · exact .inl h
      · exact .inr (h3 c h)
theorem rb_head (n p : Nat) {c : UInt8} (hc : (rb n p).head? = some c) : c ≠ 45 := by
  have : c ∈ rb n p := List.mem_of_mem_head? hc
  rcases rb_char n p c this with h | h
  · rw [h]; decide
  · intro e; rw [e] at h; exact absurd h (by unfold isD; decide)
theorem rt_char (x : Int) (p : Nat) : ∀ c ∈ rt x p, c = 45 ∨ c = 46 ∨ isD c := by
  intro c hc
  unfold rt at hc
  split at hc
  · rcases List.mem_cons.1 hc with h | h
    · exact .inl h
    · exact .inr (rb_char _ _ c h)
  · exact .inr (rb_char _ _ c hc)
theorem rt_no (x : Int) (p : Nat) (k : UInt8) (h1 : k ≠ 45) (h2 : k ≠ 46) (h3 : ¬ isD k) : k ∉ rt x p := fun h => by
  rcases rt_char x p k h with h | h | h
  · exact h1 h
  · exact h2 h
  · exact h3 h
theorem rt_pre (x : Int) (p : Nat) : Lib.hasPrefix (rt x p) [45] = decide (x < 0) ∧ Lib.trimPrefix (rt x p) [45] = rb x.natAbs p := by
  unfold rt
  split
  · rename_i h
    have e : Lib.hasPrefix (45 :: rb x.natAbs p) [45] = true := by simp [Lib.hasPrefix]
    refine ⟨e.trans (decide_eq_true h).symm, ?_⟩
    have := pre_of _ e
    exact (List.cons.inj this).2.symm
  · rename_i h
    have e : Lib.hasPrefix (rb x.natAbs p) [45] = false := by
      unfold Lib.hasPrefix
      rcases hb : rb x.natAbs p with _ | ⟨c, t⟩
      · rfl
      · have := rb_head x.natAbs p (c := c) (by rw [hb]; rfl)
        simp [List.isPrefixOf]
        exact fun e => this e.symm
    exact ⟨by rw [e, decide_eq_false h], pre_no _ e⟩
theorem dec_ld (n : Nat) : ld (Lib.decDigits n) = false := by
  unfold ld
  rcases Nat.eq_zero_or_pos n with h | h
  · subst h; rw [dec_small (by omega)]; rfl
  · rcases hq : (Lib.decDigits n).head? with _ | c
    · simp
    · have := (dec_facts n).2.2.2 h c hq
      have e : (some c == some (48 : UInt8)) = false := by simpa using this
      rw [e, Bool.and_false]
theorem prs_fin (n p wl : Nat) (z : Bool) (x : Int) (hx : x.natAbs = n) (hn : n ≤ 1000000000) (h1 : 1 ≤ p) (hp : p ≤ 6) (hwl : 1 ≤ wl) (hz : 1 ≤ n → z = true) :
    prs ⟨(n : Int), (wl : Int), (p : Int), true, false, z, false⟩ (decide (x < 0)) = .tuple #[.agg #[.int .i64 x, .int .i64 (p : Int)], .int .i64 0] := by
  have c2 : ((p : Int) == 0) = false := by simpa using (by omega : ¬ (p : Int) = 0)
  have c3 : ((wl : Int) == 0) = false := by simpa using (by omega : ¬ (wl : Int) = 0)
  have c4 : decide (6 < (p : Int)) = false := decide_eq_false (by omega)
  have c6 : (decide (x < 0) && !z) = false := by
    rcases Int.lt_or_le x 0 with hx | hx
    · rw [hz (by omega)]; simp
    · rw [decide_eq_false (by omega)]; rfl
  have c7 : ¬ 1000000000 < (n : Int) := by omega
  unfold prs rej
  simp only [c2, c3, c4, c6, Bool.and_false, Bool.or_false, Bool.false_eq_true, if_false]
  rw [if_neg c7]
  rcases Int.lt_or_le x 0 with hx | hx
  · rw [decide_eq_true hx, if_pos rfl, show -(n : Int) = x by omega]
  · rw [decide_eq_false (by omega), if_neg (by simp), show (n : Int) = x by omega]
/-- the text of a decimal is read as this decimal -/
theorem rt_back (x : Int) (p : Nat) (h0 : -1000000000 ≤ x) (h1 : x ≤ 1000000000) (hp : p ≤ 6) :
    prs (rn (rb x.natAbs p)) (decide (x < 0)) = .tuple #[.agg #[.int .i64 x, .int .i64 (p : Int)], .int .i64 0] := by
  rcases Nat.eq_zero_or_pos p with h | h
  · subst h
    have e : rb x.natAbs 0 = fb x.natAbs 0 := by rw [fb_zero]; rfl
    rw [e]; exact fm_back x 0 h0 h1 (by omega)
  · have hn : x.natAbs ≤ 1000000000 := by omega
    generalize hnn : x.natAbs = n at hn
    obtain ⟨B, b1, b2, b3, b4⟩ := dec_one p (n % 10 ^ p) (Nat.mod_lt _ (Nat.pow_pos (by omega)))
    obtain ⟨a1, a2, a3, a4⟩ := dec_facts (n / 10 ^ p)
    have e : rb n p = Lib.decDigits (n / 10 ^ p) ++ 46 :: B := by unfold rb; rw [if_neg (by omega), b1]; rfl
    have hv : val (Lib.decDigits (n / 10 ^ p) ++ B) = n := by
      rw [val_app, a2, b2, b4, Nat.mul_comm]
      exact Nat.div_add_mod n (10 ^ p)
    have hz : nz (Lib.decDigits (n / 10 ^ p) ++ B) = decide (1 ≤ n) ∨ True := .inr trivial
    have hnz : (1 ≤ n) → nz (Lib.decDigits (n / 10 ^ p) ++ B) = true := fun h => by
      cases hq : nz (Lib.decDigits (n / 10 ^ p) ++ B)
      · exfalso
        have h0 : ∀ l : List UInt8, nz l = false → val l = 0 := fun l => by
          refine snoc_ind (P := fun l => nz l = false → val l = 0) (fun _ => rfl) ?_ l
          intro l c ih hl
          rw [nz_snoc, Bool.or_eq_false_iff] at hl
          have hc : c = 48 := by simpa using hl.2
          rw [val_snoc, ih hl.1, hc]; rfl
        have := h0 _ hq
        omega
      · rfl
    have hwl : 1 ≤ (Lib.decDigits (n / 10 ^ p)).length := by rw [Lib.decDigits_length]; exact Lib.nDigits_pos _
    rw [e, rn_point _ a1 B b3, hv, dec_ld, b2, capN_le hn]
    exact prs_fin n p _ _ x hnn hn h hp hwl hnz
end Go.Proofs.YtgclojonjglikaaDoor.Rd1
