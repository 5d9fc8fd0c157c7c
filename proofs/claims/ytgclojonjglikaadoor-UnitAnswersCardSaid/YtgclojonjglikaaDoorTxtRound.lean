/- Plain facts: the text of a decimal is read as this decimal, and what is read has this text (layer 4): no call here. -/
import Derived.Test.YtgclojonjglikaaDoorTxtMath
import Derived.Lib.Strings
namespace Go.Proofs.YtgclojonjglikaaDoor.Un
open Go.Lib
set_option linter.unusedVariables false
/-- the digits, with zeros ahead of them so that one stands ahead of the places -/
def pad (n p : Nat) : List UInt8 := List.replicate (p + 1 - nDigits n) 48 ++ decDigits n
def fb (n p : Nat) : List UInt8 := if p = 0 then pad n p else (pad n p).take ((pad n p).length - p) ++ 46 :: (pad n p).drop ((pad n p).length - p)
def fm (x : Int) (p : Nat) : List UInt8 := if x < 0 then 45 :: fb x.natAbs p else fb x.natAbs p
theorem pad_len (n p : Nat) : (pad n p).length = max (p + 1) (nDigits n) := by
  have := nDigits_pos n
  simp only [pad, List.length_append, List.length_replicate, decDigits_length]; omega
theorem val_zeros (k : Nat) (l : List UInt8) : val (List.replicate k 48 ++ l) = val l := by
  have : ∀ k, (List.replicate k (48 : UInt8)).foldl (fun v c => 10 * v + (c.toNat - 48)) 0 = 0 := by
    intro k
    induction k with
    | zero => rfl
    | succ k ih => rw [List.replicate_succ', List.foldl_append, ih]; rfl
  unfold val
  rw [List.foldl_append, this]
theorem nz_zeros (k : Nat) (l : List UInt8) : nz (List.replicate k 48 ++ l) = nz l := by
  unfold nz
  rw [List.any_append]
  have : (List.replicate k (48 : UInt8)).any (fun c => c != 48) = false := by
    induction k with
    | zero => rfl
    | succ k ih => rw [List.replicate_succ, List.any_cons, ih]; rfl
  rw [this, Bool.false_or]
theorem pad_facts (n p : Nat) : allD (pad n p) ∧ val (pad n p) = n ∧ nz (pad n p) = decide (1 ≤ n) ∧ (p + 2 ≤ (pad n p).length → (pad n p).head? ≠ some 48) := by
  obtain ⟨a, b, c, d⟩ := dec_facts n
  refine ⟨?_, ?_, ?_, ?_⟩
  · intro x hx
    rcases List.mem_append.1 hx with h | h
    · rw [(List.mem_replicate.1 h).2]; exact ⟨by decide, by decide⟩
    · exact a x h
  · unfold pad; rw [val_zeros, b]
  · unfold pad; rw [nz_zeros, c]
  · intro h
    rw [pad_len] at h
    have h2 : p + 1 - nDigits n = 0 := by omega
    have h3 : 1 ≤ n := by
      rcases Nat.eq_zero_or_pos n with h0 | h0
      · subst h0; rw [nDigits_small (by omega)] at h; omega
      · exact h0
    unfold pad
    rw [h2]
    intro e
    exact d h3 48 e rfl
theorem allD_take {l : List UInt8} (h : allD l) (k : Nat) : allD (l.take k) := fun x hx => h x (List.mem_of_mem_take hx)
theorem allD_drop {l : List UInt8} (h : allD l) (k : Nat) : allD (l.drop k) := fun x hx => h x (List.mem_of_mem_drop hx)
theorem allD_head {l : List UInt8} (h : allD l) {c : UInt8} (hc : l.head? = some c) : c ≠ 45 := by
  rintro rfl
  have := h 45 (List.mem_of_mem_head? hc)
  unfold isD at this
  have e : (45 : UInt8).toNat = 45 := rfl
  omega
theorem head_app {l r : List UInt8} (h : l ≠ []) : (l ++ r).head? = l.head? := by
  rcases l with _ | ⟨c, t⟩
  · exact absurd rfl h
  · rfl
theorem fb_head (n p : Nat) {c : UInt8} (hc : (fb n p).head? = some c) : c ≠ 45 := by
  unfold fb at hc
  split at hc
  · exact allD_head (pad_facts n p).1 hc
  · have hl := pad_len n p
    have hne : (pad n p).take ((pad n p).length - p) ≠ [] := by
      intro e
      have := congrArg List.length e
      simp at this
      omega
    rw [head_app hne] at hc
    exact allD_head (allD_take (pad_facts n p).1 _) hc
theorem capN_le {n : Nat} (h : n ≤ 1000000000) : capN n = n := by unfold capN cap; rw [if_pos (by omega)]
/-- the text of a decimal is read as this decimal -/
theorem fm_back (x : Int) (p : Nat) (h0 : -1000000000 ≤ x) (h1 : x ≤ 1000000000) (hp : p ≤ 6) :
    prs (rn (fb x.natAbs p)) (decide (x < 0)) = .tuple #[.agg #[.int .i64 x, .int .i64 (p : Int)], .int .i64 0] := by
  obtain ⟨a, b, c, d⟩ := pad_facts x.natAbs p
  have hl := pad_len x.natAbs p
  have hn : x.natAbs ≤ 1000000000 := by omega
  have fin : ∀ (wh : Int) (pt : Bool), 1 ≤ wh → (pt = true → 1 ≤ p) → (pt = false → p = 0) →
      prs ⟨capN x.natAbs, wh, (p : Int), pt, false, decide (1 ≤ x.natAbs), false⟩ (decide (x < 0)) = .tuple #[.agg #[.int .i64 x, .int .i64 (p : Int)], .int .i64 0] := by
    intro wh pt g1 g2 g3
    unfold prs
    rw [if_neg, capN_le hn, if_neg (by simp only []; omega)]
    · have hval : (if decide (x < 0) = true then -((x.natAbs : Nat) : Int) else ((x.natAbs : Nat) : Int)) = x := by
        rcases Int.lt_or_le x 0 with hx | hx
        · rw [if_pos (decide_eq_true hx)]; omega
        · rw [if_neg (by rw [decide_eq_false (by omega)]; decide)]; omega
      simp only [hval]
    · simp only [rej, Bool.false_or, Bool.or_eq_true, Bool.and_eq_true, beq_iff_eq, decide_eq_true_eq, Bool.not_eq_true', decide_eq_false_iff_not]
      rintro (h | ⟨h, h'⟩ | h | ⟨h, h'⟩)
      · omega
      · have := g2 h; omega
      · omega
      · omega
  unfold fb
  split
  · rename_i e
    subst e
    rw [rn_digits _ a, b, c]
    have hld : ld (pad x.natAbs 0) = false := by
      unfold ld
      rcases Nat.lt_or_ge (pad x.natAbs 0).length 2 with h | h
      · rw [decide_eq_false (by omega)]; rfl
      · rw [Bool.and_eq_false_iff]; right
        exact beq_eq_false_iff_ne.2 (d h)
    rw [hld]
    exact fin _ false (by omega) (by simp) (fun _ => rfl)
  · rename_i e
    have hA := allD_take a ((pad x.natAbs p).length - p)
    have hB := allD_drop a ((pad x.natAbs p).length - p)
    rw [rn_point _ hA _ hB, List.take_append_drop, b, c]
    have hld : ld ((pad x.natAbs p).take ((pad x.natAbs p).length - p)) = false := by
      unfold ld
      rcases Nat.lt_or_ge (pad x.natAbs p).length (p + 2) with h | h
      · rw [decide_eq_false (by simp; omega)]; rfl
      · rw [Bool.and_eq_false_iff]; right
        refine beq_eq_false_iff_ne.2 ?_
        rw [List.head?_take, if_neg (by omega)]
        exact d h
    rw [hld, show (((pad x.natAbs p).drop ((pad x.natAbs p).length - p)).length : Int) = (p : Int) by simp; omega]
    exact fin _ true (by simp; omega) (fun _ => by omega) (by simp)
/-- what is read has the text that it was read from -/
theorem fm_again (l : List UInt8) (m : Bool) (X P : Int) (h : prs (rn l) m = .tuple #[.agg #[.int .i64 X, .int .i64 P], .int .i64 0]) :
    ∃ p : Nat, P = (p : Int) ∧ p ≤ 6 ∧ -1000000000 ≤ X ∧ X ≤ 1000000000 ∧ fb X.natAbs p = l ∧ decide (X < 0) = m := by
  unfold prs at h
  split at h
  · simp at h
  · rename_i hr
    split at h
    · simp at h
    · rename_i hd
      have hr' : rej (rn l) m = false := by simpa using hr
      simp only [rej, Bool.or_eq_false_iff] at hr'
      obtain ⟨r1, r2, r3, r4, r5, r6⟩ := hr'
      simp only [Value.tuple.injEq, Array.mk.injEq, List.cons.injEq, Value.agg.injEq, Value.int.injEq, true_and, and_true] at h
      obtain ⟨hX, hP⟩ := h
      have key : ∀ (n : Nat), (rn l).digits = capN n → (rn l).some = decide (1 ≤ n) → -1000000000 ≤ X ∧ X ≤ 1000000000 ∧ X.natAbs = n ∧ decide (X < 0) = m := by
        intro n e1 e2
        have hle : n ≤ 1000000000 := by
          rw [e1] at hd
          unfold capN cap at hd
          split at hd <;> omega
        rw [e1, capN_le hle] at hX
        rcases m
        · simp only [Bool.false_eq_true, if_false] at hX
          exact ⟨by omega, by omega, by omega, decide_eq_false (by omega)⟩
        · simp only [if_true] at hX
          rw [e2] at r6
          have h1 : 1 ≤ n := by simpa using r6
          exact ⟨by omega, by omega, by omega, decide_eq_true (by omega)⟩
      rcases rn_shape l r1 with hD | ⟨A, B, rfl, hA, hB⟩
      · have E := rn_digits l hD
        have e1 : (rn l).digits = capN (val l) := by rw [E]
        have e2 : (rn l).leading = ld l := by rw [E]
        have e3 : (rn l).whole = (l.length : Int) := by rw [E]
        have e4 : (rn l).places = 0 := by rw [E]
        have e5 : (rn l).some = nz l := by rw [E]
        rw [e2] at r2
        rw [e3] at r3
        rw [e4] at hP
        clear E
        have hne : l ≠ [] := by rintro rfl; simp at r3
        obtain ⟨hf, hle⟩ := digits_form l hD hne
        have hnz : nz l = decide (1 ≤ val l) := by
          conv => lhs; rw [hf]
          rw [nz_zeros, (dec_facts _).2.2.1]
        obtain ⟨k1, k2, k3, k4⟩ := key (val l) e1 (e5.trans hnz)
        refine ⟨0, hP.symm, by omega, k1, k2, ?_, k4⟩
        rw [k3]
        have hk : l.length - nDigits (val l) = 0 := by
          rcases Nat.eq_zero_or_pos (l.length - nDigits (val l)) with h0 | h0
          · exact h0
          · exfalso
            have hp := nDigits_pos (val l)
            simp only [ld] at r2
            rw [decide_eq_true (by omega : 2 ≤ l.length), Bool.true_and] at r2
            have : l.head? = some 48 := by
              rw [hf]
              obtain ⟨k, hk⟩ : ∃ k, l.length - nDigits (val l) = k + 1 := ⟨_, (Nat.sub_add_cancel h0).symm⟩
              rw [hk, List.replicate_succ]; rfl
            rw [this] at r2
            simp at r2
        rw [hk] at hf
        simp only [fb, if_true, pad]
        rw [show 0 + 1 - nDigits (val l) = 0 by have := nDigits_pos (val l); omega]
        exact hf.symm
      · have E := rn_point A hA B hB
        have e1 : (rn (A ++ 46 :: B)).digits = capN (val (A ++ B)) := by rw [E]
        have e2 : (rn (A ++ 46 :: B)).leading = ld A := by rw [E]
        have e3 : (rn (A ++ 46 :: B)).whole = (A.length : Int) := by rw [E]
        have e4 : (rn (A ++ 46 :: B)).places = (B.length : Int) := by rw [E]
        have e5 : (rn (A ++ 46 :: B)).some = nz (A ++ B) := by rw [E]
        have e6 : (rn (A ++ 46 :: B)).point = true := by rw [E]
        rw [e2] at r2
        rw [e3] at r3
        rw [e4, e6] at r4
        rw [e4] at r5 hP
        clear E
        have hAB : allD (A ++ B) := fun x hx => by
          rcases List.mem_append.1 hx with h' | h'
          · exact hA x h'
          · exact hB x h'
        have hA0 : 1 ≤ A.length := by
          rcases Nat.eq_zero_or_pos A.length with h0 | h0
          · simp [h0] at r3
          · exact h0
        have hB0 : 1 ≤ B.length := by
          rcases Nat.eq_zero_or_pos B.length with h0 | h0
          · simp [h0] at r4
          · exact h0
        have hB6 : B.length ≤ 6 := by have := of_decide_eq_false r5; omega
        have hne : A ++ B ≠ [] := by
          intro e; have := congrArg List.length e; rw [List.length_append, List.length_nil] at this; omega
        obtain ⟨hf, hle⟩ := digits_form (A ++ B) hAB hne
        have hnz : nz (A ++ B) = decide (1 ≤ val (A ++ B)) := by
          conv => lhs; rw [hf]
          rw [nz_zeros, (dec_facts _).2.2.1]
        obtain ⟨k1, k2, k3, k4⟩ := key (val (A ++ B)) e1 (e5.trans hnz)
        refine ⟨B.length, hP.symm, hB6, k1, k2, ?_, k4⟩
        rw [k3]
        have hlen : (A ++ B).length = A.length + B.length := List.length_append
        have hk : (A ++ B).length - nDigits (val (A ++ B)) = B.length + 1 - nDigits (val (A ++ B)) := by
          rcases Nat.lt_or_ge A.length 2 with h2 | h2
          · omega
          · rcases Nat.eq_zero_or_pos ((A ++ B).length - nDigits (val (A ++ B))) with h0 | h0
            · omega
            · exfalso
              simp only [ld] at r2
              rw [decide_eq_true h2, Bool.true_and] at r2
              have h48 : (A ++ B).head? = some 48 := by
                rw [hf]
                obtain ⟨k, hk⟩ : ∃ k, (A ++ B).length - nDigits (val (A ++ B)) = k + 1 := ⟨_, (Nat.sub_add_cancel h0).symm⟩
                rw [hk, List.replicate_succ]; rfl
              rw [head_app (by rintro rfl; simp at hA0)] at h48
              rw [h48] at r2
              simp at r2
        have hpad : pad (val (A ++ B)) B.length = A ++ B := by
          unfold pad
          rw [← hk]
          exact hf.symm
        simp only [fb, hpad]
        rw [if_neg (by omega), show (A ++ B).length - B.length = A.length by omega, List.take_left, List.drop_left]
theorem pre_of (l : List UInt8) (h : hasPrefix l [45] = true) : l = 45 :: trimPrefix l [45] := by
  unfold trimPrefix
  rw [if_pos h]
  unfold hasPrefix at h
  rcases l with _ | ⟨c, t⟩
  · simp at h
  · simp at h; rw [← h]; rfl
theorem pre_no (l : List UInt8) (h : hasPrefix l [45] = false) : trimPrefix l [45] = l := by
  unfold trimPrefix
  rw [if_neg (by rw [h]; decide)]
theorem fm_pre (x : Int) (p : Nat) : hasPrefix (fm x p) [45] = decide (x < 0) ∧ trimPrefix (fm x p) [45] = fb x.natAbs p := by
  unfold fm
  split
  · rename_i h
    have e : hasPrefix (45 :: fb x.natAbs p) [45] = true := by simp [hasPrefix]
    refine ⟨e.trans (decide_eq_true h).symm, ?_⟩
    have := pre_of _ e
    exact (List.cons.inj this).2.symm
  · rename_i h
    have e : hasPrefix (fb x.natAbs p) [45] = false := by
      unfold hasPrefix
      rcases hb : fb x.natAbs p with _ | ⟨c, t⟩
      · rfl
      · have := fb_head x.natAbs p (c := c) (by rw [hb]; rfl)
        simp [List.isPrefixOf]
        exact fun e => this e.symm
    exact ⟨by rw [e, decide_eq_false h], pre_no _ e⟩
end Go.Proofs.YtgclojonjglikaaDoor.Un
