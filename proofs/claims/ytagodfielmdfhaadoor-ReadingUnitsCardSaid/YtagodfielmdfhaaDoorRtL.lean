/- Texts of readings (layer 5): the line of a reading is read as this reading; plain facts: no call here. -/
import Derived.Test.YtagodfielmdfhaaDoorRtM
namespace Go.Proofs.YtagodfielmdfhaaDoor.Rt
open Go.Lib Un Rg
open Rm (Rp tm vl)
set_option linter.unusedVariables false
theorem nd_13 {n : Nat} (h : n ≤ 1099511627776) : nDigits n ≤ 13 := by
  rcases Nat.lt_or_ge 13 (nDigits n) with h1 | h1
  · exfalso
    have key : ∀ k u, k < nDigits u → 10 ^ k ≤ u ∨ k = 0 := by
      intro k
      induction k with
      | zero => intro u _; exact .inr rfl
      | succ k ih =>
        intro u hu
        by_cases h10 : u < 10
        · rw [nDigits_small h10] at hu; omega
        · rw [nDigits_big h10] at hu
          rcases ih (u / 10) (by omega) with h2 | h2
          · left; rw [Nat.pow_succ]; omega
          · left; subst h2; simp; omega
    rcases key 13 n h1 with h2 | h2
    · have : (10 : Nat) ^ 13 = 10000000000000 := by decide
      omega
    · omega
  · exact h1
theorem fb_zero (n : Nat) : fb n 0 = decDigits n := by
  unfold fb pad
  have := nDigits_pos n
  rw [if_pos rfl, show 0 + 1 - nDigits n = 0 by omega]; rfl
theorem itoa_fm (x : Int) : itoa x = fm x 0 := by
  unfold itoa fm
  rw [fb_zero]
  split
  · first | rfl | rw [show (-x).toNat = x.natAbs by omega]
  · first | rfl | rw [show x.toNat = x.natAbs by omega]
theorem fm_char (x : Int) : ∀ c ∈ fm x 0, c = 45 ∨ isD c := by
  intro c hc
  have hd := (dec_facts x.natAbs).1
  unfold fm at hc
  rw [fb_zero] at hc
  split at hc
  · rcases List.mem_cons.1 hc with h | h
    · exact .inl h
    · exact .inr (hd c h)
  · exact .inr (hd c hc)
theorem fm_no (x : Int) (k : UInt8) (h1 : k ≠ 45) (h2 : ¬ isD k) : k ∉ fm x 0 := fun h => (fm_char x k h).elim h1 h2
theorem no32 : ¬ isD (32 : UInt8) := by unfold isD; decide
theorem no10 : ¬ isD (10 : UInt8) := by unfold isD; decide
theorem fm_pos (t : Int) (h : 0 ≤ t) : fm t 0 = decDigits t.natAbs := by
  unfold fm
  rw [if_neg (by omega), fb_zero]
theorem isT_dec (n : Nat) (h : n ≤ 1099511627776) : isT (decDigits n) = true := by
  obtain ⟨a, b, c, d⟩ := dec_facts n
  have hl := decDigits_length n
  have h1 := nDigits_pos n
  have h2 := nd_13 h
  have hh : ((decDigits n).head? == some 48 && decDigits n != [48]) = false := by
    rcases Nat.eq_zero_or_pos n with h0 | h0
    · subst h0; rw [dec_small (by omega)]; decide
    · rcases hq : (decDigits n).head? with _ | q
      · rfl
      · have := d h0 q hq
        rw [show ((some q == some (48 : UInt8)) = false) from by simpa using this]
        rfl
  have ha : (decDigits n).all (fun c => decide (48 ≤ c.toNat) && decide (c.toNat ≤ 57)) = true := by
    rw [List.all_eq_true]
    intro x hx
    have := a x hx
    rw [decide_eq_true this.1, decide_eq_true this.2]; rfl
  unfold isT
  rw [decide_eq_true (by omega), decide_eq_true (by omega), hh, ha]; rfl
/-- the line of a reading -/
def lt (p : Rp) : List UInt8 := fm p.1 0 ++ 32 :: (fm p.2 0 ++ 32 :: [114, 97, 119])
/-- the text of readings -/
def ft (l : List Rp) : List UInt8 := l.flatMap fun p => lt p ++ [10]
theorem ft_cons (p : Rp) (l : List Rp) : ft (p :: l) = lt p ++ 10 :: ft l := by simp [ft]
theorem ft_app (a b : List Rp) : ft (a ++ b) = ft a ++ ft b := by simp [ft]
theorem lt_no (p : Rp) : (10 : UInt8) ∉ lt p := by
  intro h
  unfold lt at h
  rcases List.mem_append.1 h with h | h
  · exact fm_no p.1 10 (by decide) no10 h
  · rcases List.mem_cons.1 h with h | h
    · exact absurd h (by decide)
    · rcases List.mem_append.1 h with h | h
      · exact fm_no p.2 10 (by decide) no10 h
      · exact absurd h (by decide)
theorem lns_ft (l : List Rp) (b : List UInt8) : lns (ft l ++ b) = l.map lt ++ lns b := by
  induction l with
  | nil => rfl
  | cons p l ih =>
    rw [ft_cons, List.append_assoc, List.cons_append, lns_line _ _ (lt_no p), ih]; rfl
theorem prs_inv {S : Sc} {m : Bool} {X P : Int} (h : prs S m = .tuple #[.agg #[.int .i64 X, .int .i64 P], .int .i64 0]) :
    rej S m = false ∧ ¬ 1000000000 < S.digits ∧ (if m = true then -S.digits else S.digits) = X ∧ S.places = P := by
  unfold prs at h
  split at h
  · simp at h
  · rename_i h1
    split at h
    · simp at h
    · rename_i h2
      simp only [Value.tuple.injEq, Array.mk.injEq, List.cons.injEq, Value.agg.injEq, Value.int.injEq] at h
      exact ⟨by simpa using h1, h2, by simpa using h.1.1.2, by simpa using h.1.2.1.2⟩
def raw : Ut := ⟨[114, 97, 119], 1, 0, 1⟩
theorem line_lt (US : List Ut) (p : Rp) (hv : Vr p.1 p.2) (hU : look US [114, 97, 119] = some raw) : lineS US (lt p) = (p, 0) := by
  obtain ⟨t, v⟩ := p
  obtain ⟨t0, t1, v0, v1⟩ := hv
  simp only at t0 t1 v0 v1
  have hp : (lt (t, v)) = fm t 0 ++ 32 :: (fm v 0 ++ 32 :: [114, 97, 119]) := rfl
  have hT : isT (fm t 0) = true := by rw [fm_pos t t0]; exact isT_dec _ (by omega)
  have hval : (val (fm t 0) : Int) = t := by rw [fm_pos t t0, (dec_facts t.natAbs).2.1]; omega
  obtain ⟨b1, b2, b3, b4⟩ := prs_inv (fm_back v 0 (by omega) (by omega) (by omega))
  have hpre := fm_pre v 0
  have hcv : cv v 0 raw = v := by
    show hup (v * 1 + 0 * (10 ^ (0 : Int).toNat)) (1 * (10 ^ (0 : Int).toNat)) = v
    have e : (10 ^ (0 : Int).toNat : Int) = 1 := by rfl
    rw [e]; unfold hup; omega
  have hs : smp v = true := decide_eq_true ⟨v0, v1⟩
  unfold lineS
  rw [hp, sp_three _ _ _ (fm_no t 32 (by decide) no32) (fm_no v 32 (by decide) no32) (by decide)]
  simp only
  unfold line3
  rw [if_neg (by rw [hT]; simp), hpre.1, hpre.2, if_neg (by rw [b1]; simp), if_neg (by omega), if_neg b2, hU]
  simp only
  rw [b3, b4, show ((0 : Nat) : Int) = 0 from rfl, hcv, if_pos hs, hval]
theorem run_ft (US : List Ut) (hU : look US [114, 97, 119] = some raw) (l : List Rp) : ∀ (cs : List (List UInt8)) (n : Nat) (acc : List Rp), Vrs l → acc.length + l.length ≤ 2000 →
    run US (l.map lt ++ cs) n acc = run US cs (n + l.length) (acc ++ l) := by
  induction l with
  | nil => intro cs n acc _ _; simp
  | cons p l ih =>
    intro cs n acc hv hl
    have h0 : Vr p.1 p.2 := hv 0 (by simp)
    have hv' : Vrs l := fun i hi => by
      have := hv (i + 1) (by simpa using hi)
      simpa [tm, vl] using this
    have hL := line_lt US p h0 hU
    have hne : ¬ (lt p = [] ∨ (lt p).head? = some 35) := by
      have hc : ∃ c r, lt p = c :: r ∧ c ∈ fm p.1 0 := by
        rcases hq : fm p.1 0 with _ | ⟨c, r⟩
        · have h1 := decDigits_length p.1.natAbs
          have h2 := nDigits_pos p.1.natAbs
          rw [fm_pos p.1 h0.1] at hq
          rw [hq] at h1; simp at h1; omega
        · exact ⟨c, r ++ 32 :: (fm p.2 0 ++ 32 :: [114, 97, 119]), by unfold lt; rw [hq]; rfl, by simp⟩
      obtain ⟨c, r, e, hc⟩ := hc
      rw [e]
      intro h
      rcases h with h | h
      · simp at h
      · simp at h
        rcases fm_char p.1 c hc with h' | h'
        · rw [h] at h'; exact absurd h' (by decide)
        · rw [h] at h'; exact absurd h' (by unfold isD; decide)
    rw [List.map_cons, List.cons_append, run_good US _ _ n acc hne (by rw [hL]) (by simp at hl; omega), hL]
    rw [ih cs (n + 1) (acc ++ [p]) hv' (by simp at hl ⊢; omega)]
    simp only [List.length_cons, List.append_assoc, List.singleton_append]
    rw [show n + 1 + l.length = n + (l.length + 1) by omega]
end Go.Proofs.YtagodfielmdfhaaDoor.Rt
