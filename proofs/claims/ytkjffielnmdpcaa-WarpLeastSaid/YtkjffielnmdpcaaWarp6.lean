/- Rows of pairs: how they read, slices.Reverse over them. -/
import Derived.Test.YtkjffielnmdpcaaWarp5
namespace Go.Proofs.Ytkjffielnmdpcaa.Wa
open Go.ChangeShapes Go.WideShapes Go.RowKit Wo Sr Wi Ed
set_option linter.unusedVariables false
abbrev Pr := Nat × Nat
/-- pairs, flat -/
def ps (l : List Pr) : List Value := l.flatMap fun p => [.int .i64 (p.1 : Int), .int .i64 (p.2 : Int)]
theorem ps_len (l : List Pr) : (ps l).length = l.length * 2 := by
  induction l with
  | nil => rfl
  | cons p l ih => simp only [ps, List.flatMap_cons, List.length_append, List.length_cons, List.length_nil] at *; omega
theorem ps_app (a b : List Pr) : ps (a ++ b) = ps a ++ ps b := by simp [ps]
theorem ps_at (l : List Pr) (i : Nat) (h : i < l.length) : (ps l)[i * 2]? = some (.int .i64 ((l.getD i (0, 0)).1 : Int)) ∧ (ps l)[i * 2 + 1]? = some (.int .i64 ((l.getD i (0, 0)).2 : Int)) := by
  induction l generalizing i with
  | nil => simp at h
  | cons p l ih =>
    rcases i with _ | i
    · exact ⟨rfl, rfl⟩
    · have := ih i (by simpa using h)
      have e : ps (p :: l) = .int .i64 (p.1 : Int) :: .int .i64 (p.2 : Int) :: ps l := rfl
      rw [e, show (i + 1) * 2 = i * 2 + 1 + 1 by omega]
      simpa using this
/-- a slice that reads as these pairs -/
def Zp (w : World) (A : Option Addr) (n : Nat) (l : List Pr) : Prop := l.length = n ∧ (0 < n → ∃ ad : Addr, A = some ad ∧ ad.block < w.heap.size ∧ ∀ j, j < n → w.cell? (ad.add (j * 2)) = some (.int .i64 ((l.getD j (0, 0)).1 : Int)) ∧ w.cell? (ad.add (j * 2 + 1)) = some (.int .i64 ((l.getD j (0, 0)).2 : Int)))
theorem Zp.bel {w w' : World} {A : Option Addr} {n : Nat} {l : List Pr} (h : Zp w A n l) (hb : Bel w w') : Zp w' A n l :=
  ⟨h.1, fun hn => by
    obtain ⟨ad, e, hx, hc⟩ := h.2 hn
    exact ⟨ad, e, by have := hb.size; omega, fun j hj => ⟨hb.kp (hc j hj).1, hb.kp (hc j hj).2⟩⟩⟩
theorem Zp.at {w : World} {g n : Nat} {l : List Pr} (h : Zp w (some ⟨g, 0, none⟩) n l) (j : Nat) (hj : j < n) : w.cell? ⟨g, j * 2, none⟩ = some (.int .i64 ((l.getD j (0, 0)).1 : Int)) ∧ w.cell? ⟨g, j * 2 + 1, none⟩ = some (.int .i64 ((l.getD j (0, 0)).2 : Int)) := by
  obtain ⟨ad, e, _, hc⟩ := h.2 (by omega)
  cases e
  have := hc j hj
  rwa [add_row, add_row] at this
theorem prow_form {w : World} {base n : Nat} {v : Value} {l : List Pr} (h : w.ownsRow base 64 2 v n (ps l)) (hn : 0 < n) : ∃ g c, v = .slice (some ⟨g, 0, none⟩) n c ∧ n ≤ c ∧ base ≤ g := by
  rcases h.2 with ⟨_, h0⟩ | ⟨g, cap, cur, hv, hb, hg, h1, _⟩
  · omega
  · exact ⟨g, cap, hv, h1, hb⟩
theorem own_zp {w : World} {base k h c : Nat} {l : List Pr} (hr : w.ownsRow base 64 2 (.slice (some ⟨h, 0, none⟩) k c) k (ps l)) (hk : l.length = k) : Zp w (some ⟨h, 0, none⟩) k l := by
  refine ⟨hk, fun hn => ⟨_, rfl, hr.lt h rfl |>.2, fun j hj => ?_⟩⟩
  have e := ps_at l j (by omega)
  exact ⟨hr.cells (g := h) rfl _ _ e.1, hr.cells (g := h) rfl _ _ e.2⟩
/-- the first a and the last a pairs have been exchanged -/
def rvq (S : List Pr) (a : Nat) : List Pr := (List.range S.length).map fun i => if i < a ∨ S.length - 1 - a < i then S.getD (S.length - 1 - i) (0, 0) else S.getD i (0, 0)
theorem rvq_len (S : List Pr) (a : Nat) : (rvq S a).length = S.length := by simp [rvq]
theorem rvq_at (S : List Pr) (a i : Nat) (h : i < S.length) : (rvq S a).getD i (0, 0) = if i < a ∨ S.length - 1 - a < i then S.getD (S.length - 1 - i) (0, 0) else S.getD i (0, 0) := by
  rw [List.getD_eq_getElem?_getD, rvq, List.getElem?_map, List.getElem?_range h]; rfl
theorem qlists_eq {A B : List Pr} (hl : A.length = B.length) (h : ∀ i, i < A.length → A.getD i (0, 0) = B.getD i (0, 0)) : A = B := by
  apply List.ext_getElem?
  intro i
  rcases Nat.lt_or_ge i A.length with hi | hi
  · have := h i hi
    rw [List.getD_eq_getElem?_getD, List.getD_eq_getElem?_getD, List.getElem?_eq_getElem hi, List.getElem?_eq_getElem (by omega)] at this
    rw [List.getElem?_eq_getElem hi, List.getElem?_eq_getElem (by omega)]
    exact congrArg some this
  · rw [List.getElem?_eq_none hi, List.getElem?_eq_none (by omega)]
theorem rvq_zero (S : List Pr) : rvq S 0 = S := by
  refine qlists_eq (rvq_len _ _) fun i hi => ?_
  rw [rvq_len] at hi
  rw [rvq_at _ _ _ hi, if_neg (by omega)]
theorem qrev_at {X : List Pr} {i : Nat} (h : i < X.length) : X.reverse.getD i (0, 0) = X.getD (X.length - 1 - i) (0, 0) := by
  rw [List.getD_eq_getElem?_getD, List.getD_eq_getElem?_getD, List.getElem?_reverse (by omega)]
theorem rvq_all (S : List Pr) (a : Nat) (h : S.length ≤ 2 * a + 1) : rvq S a = S.reverse := by
  refine qlists_eq (by rw [rvq_len, List.length_reverse]) fun i hi => ?_
  rw [rvq_len] at hi
  rw [rvq_at _ _ _ hi, qrev_at hi]
  split
  · rfl
  · rename_i hc
    congr 1
    omega
theorem qset_at (A : List Pr) (k i : Nat) (y : Pr) : (A.set k y).getD i (0, 0) = if i = k ∧ i < A.length then y else A.getD i (0, 0) := by
  rw [List.getD_eq_getElem?_getD, List.getD_eq_getElem?_getD, List.getElem?_set]
  rcases Classical.em (k = i) with rfl | h
  · rcases Nat.lt_or_ge k A.length with h2 | h2
    · simp [h2]
    · simp [Nat.not_lt.2 h2]
  · rw [if_neg h, if_neg (by omega)]
theorem rvq_step (S : List Pr) (a b : Nat) (hab : a < b) (hb : b < S.length) (hs : b = S.length - 1 - a) : ((rvq S a).set a (S.getD b (0, 0))).set b (S.getD a (0, 0)) = rvq S (a + 1) := by
  refine qlists_eq (by rw [List.length_set, List.length_set, rvq_len, rvq_len]) fun i hi => ?_
  rw [List.length_set, List.length_set, rvq_len] at hi
  rw [qset_at, qset_at, List.length_set, rvq_len, rvq_at _ _ _ hi, rvq_at _ _ _ hi]
  rcases Classical.em (i = b) with rfl | h1
  · rw [if_pos ⟨rfl, hi⟩, if_pos (by omega)]
    congr 1
    omega
  · rw [if_neg (by omega)]
    rcases Classical.em (i = a) with rfl | h2
    · rw [if_pos ⟨rfl, hi⟩, if_pos (by omega)]
      congr 1
    · rw [if_neg (by omega)]
      rcases Classical.em (i < a ∨ S.length - 1 - a < i) with h3 | h3
      · rw [if_pos h3, if_pos (by omega)]
      · rw [if_neg h3, if_neg (by omega)]
theorem ps_set (l : List Pr) (i : Nat) (p : Pr) (h : i < l.length) : ((ps l).set (i * 2) (.int .i64 (p.1 : Int))).set (i * 2 + 1) (.int .i64 (p.2 : Int)) = ps (l.set i p) := by
  induction l generalizing i with
  | nil => simp at h
  | cons q l ih =>
    have e : ∀ (q : Pr) (l : List Pr), ps (q :: l) = .int .i64 (q.1 : Int) :: .int .i64 (q.2 : Int) :: ps l := fun _ _ => rfl
    rcases i with _ | i
    · rfl
    · rw [e, show (i + 1) * 2 = i * 2 + 1 + 1 by omega, List.set_cons_succ, List.set_cons_succ, List.set_cons_succ, List.set_cons_succ, ih i (by simpa using h), List.set_cons_succ, e]
theorem own_set2 {w : World} {base h n c t : Nat} {l : List Pr} (hown : w.ownsRow base 64 2 (.slice (some ⟨h, 0, none⟩) n c) n (ps l)) (hl : l.length = n) (ht : t < n) (p : Pr) : ((w.setCell ⟨h, t * 2, none⟩ (.int .i64 (p.1 : Int))).setCell ⟨h, t * 2 + 1, none⟩ (.int .i64 (p.2 : Int))).ownsRow base 64 2 (.slice (some ⟨h, 0, none⟩) n c) n (ps (l.set t p)) := by
  refine ⟨by have := hown.1; simp only [ps_len, List.length_set] at *; exact this, ?_⟩
  rcases hown.2 with ⟨h0, _⟩ | ⟨g, cap, cur, e1, hb, hg, h1, h2, h3, h4⟩
  · cases h0
  · injection e1 with e1 e2 e3
    injection e1 with e1
    cases e1
    subst e3
    refine .inr ⟨h, c, _, rfl, hb, Bk.st (t := 64) (Bk.st (t := 64) hg (t * 2) _) (t * 2 + 1) _, h1, h2, by simpa using h3, ?_⟩
    rw [Array.toList_setIfInBounds, Array.toList_setIfInBounds, List.take_set, List.take_set, h4]
    exact ps_set l t p (by omega)
theorem pown_fr {w : World} {base h n c size : Nat} {xs : List Value} {e : TypeId} (hown : w.ownsRow base e size (.slice (some ⟨h, 0, none⟩) n c) n xs) (t : Nat) : w.frozen? ⟨h, t, none⟩ = false := by
  rcases hown.2 with ⟨h0, _⟩ | ⟨g, cap, cur, e1, hb, hg, _⟩
  · cases h0
  · injection e1 with e1 e2 e3
    injection e1 with e1
    cases e1
    exact Bk.fr (t := e) hg t
set_option maxHeartbeats 8000000 in
set_option maxRecDepth 100000 in
theorem reverse_p (base h c k : Nat) (S : List Pr) (hk : S.length = k) (k1 : 1 ≤ k) (k2 : k ≤ 100000) (w w0 : World) (hown : w.ownsRow base 64 2 (.slice (some ⟨h, 0, none⟩) k c) k (ps S)) (hb : Bel w0 w) (hh : w0.heap.size ≤ h) :
    Calls Try.prog 41 #[.slice (some ⟨h, 0, none⟩) k c] w fun e w' => e = .returned (.tuple #[]) ∧ w'.ownsRow base 64 2 (.slice (some ⟨h, 0, none⟩) k c) k (ps S.reverse) ∧ Bel w0 w' := by
  have HO := Lib.hid hown
  have HB := Lib.hid hb
  have ki : (k : Int) ≤ 100000 := by omega
  have ki1 : 1 ≤ (k : Int) := by omega
  obtain ⟨l, hl⟩ : ∃ l, k - 1 = l := ⟨_, rfl⟩
  have hli : (k : Int) - 1 = (l : Int) := by omega
  have wl : wrap64 (l : Int) = (l : Int) := IntWalk.wrap64_in _ (by omega)
  have HL := Lib.hid hl
  clear hown hb
  go_enter Try.func41, Try.ntmps41
  go_wp2
  go_loopw [2, 3] (fun s2 s3 wr => ∃ (a : Nat) (b : Int) (V : World), V = wr ∧ s2 = .int .i64 (a : Int) ∧ s3 = .int .i64 b ∧ b = (k : Int) - 1 - (a : Int) ∧ 2 * a ≤ k + 1 ∧ wr.ownsRow base 64 2 (.slice (some ⟨h, 0, none⟩) k c) k (ps (rvq S a)) ∧ Bel w0 wr) (fun s2 _ _ => k - (intOf s2).toNat)
  case atStart => exact ⟨0, _, _, rfl, rfl, rfl, by omega, by omega, by rw [rvq_zero]; exact HO.out, HB.out⟩
  case round =>
    obtain ⟨a, b, wr, hwr, rfl, rfl, hab, ha2, ho, hb⟩ := hrel
    subst hwr
    have HO2 := Lib.hid ho
    have HB2 := Lib.hid hb
    rcases Int.lt_or_le (a : Int) b with hlt | hge
    · obtain ⟨b, rfl⟩ := Int.eq_ofNat_of_zero_le (show 0 ≤ b by omega)
      have z := own_zp ho (by rw [rvq_len]; exact hk)
      obtain ⟨c1, c1'⟩ := z.at a (by omega)
      obtain ⟨c2, c2'⟩ := z.at b (by omega)
      have f1 := pown_fr ho (a * 2)
      have f2 := pown_fr ho (b * 2)
      have f1' := pown_fr ho (a * 2 + 1)
      have f2' := pown_fr ho (b * 2 + 1)
      rw [rvq_at _ _ _ (by omega), if_neg (by omega)] at c1 c2 c1' c2'
      obtain ⟨x, hx⟩ : ∃ x, S.getD a (0, 0) = x := ⟨_, rfl⟩
      obtain ⟨y, hy⟩ : ∃ x, S.getD b (0, 0) = x := ⟨_, rfl⟩
      rw [hx] at c1 c1'
      rw [hy] at c2 c2'
      have hne : a ≠ b := by omega
      have HXY := Lib.hid (And.intro hx hy)
      have HST : Hid (((((wr.setCell ⟨h, a * 2, none⟩ (.int .i64 (y.1 : Int))).setCell ⟨h, a * 2 + 1, none⟩ (.int .i64 (y.2 : Int))).setCell ⟨h, b * 2, none⟩ (.int .i64 (x.1 : Int))).setCell ⟨h, b * 2 + 1, none⟩ (.int .i64 (x.2 : Int))).ownsRow base 64 2 (.slice (some ⟨h, 0, none⟩) k c) k (ps (rvq S (a + 1)))) := by
        have h1 := own_set2 (own_set2 ho (by rw [rvq_len]; exact hk) (t := a) (by omega) y) (by rw [List.length_set, rvq_len]; exact hk) (t := b) (by omega) x
        rw [← hx, ← hy, rvq_step S a b (by omega) (by omega) (by omega)] at h1
        rw [← hx, ← hy]
        exact h1
      have HSB : Hid (Bel w0 ((((wr.setCell ⟨h, a * 2, none⟩ (.int .i64 (y.1 : Int))).setCell ⟨h, a * 2 + 1, none⟩ (.int .i64 (y.2 : Int))).setCell ⟨h, b * 2, none⟩ (.int .i64 (x.1 : Int))).setCell ⟨h, b * 2 + 1, none⟩ (.int .i64 (x.2 : Int)))) := (((hb.st (by show _ ≤ h; exact hh) _).st (by show _ ≤ h; exact hh) _).st (by show _ ≤ h; exact hh) _).st (by show _ ≤ h; exact hh) _
      have ak : (a : Int) < (k : Int) := by omega
      have bk : (b : Int) < (k : Int) := by omega
      have HABE := Lib.hid (And.intro hab hli)
      have hab3 : (a : Int) < (b : Int) := hlt
      clear ho hb z hx hy hab hli
      go_wp2
      go_region
      all_goals
        go_wp2
        go_roundw
        case rel => exact ⟨a + 1, _, _, rfl, by go_num, rfl, by have := HABE.out.1; omega, by have := HABE.out.1; omega, own_bel HST.out (by first | exact Bel.rf | exact Bel.rf.drw | exact Bel.rf.drwN _), by first | exact HSB.out | exact HSB.out.drw | exact HSB.out.drwN _⟩
        case measure => (have := HABE.out.1; simp [intOf]; omega)
    · rw [rvq_all S a (by omega)] at ho
      have HF := Lib.hid ho
      clear ho hb
      go_wp2
      go_end0
      exact ⟨rfl, HF.out, HB2.out⟩
end Go.Proofs.Ytkjffielnmdpcaa.Wa
