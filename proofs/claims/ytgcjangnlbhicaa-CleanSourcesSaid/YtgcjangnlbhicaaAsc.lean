/- keep.Ascending: a new row of readings whose times ascend. -/
import Derived.Test.YtgcjangnlbhicaaRds
namespace Go.Proofs.Ytgcjangnlbhicaa.Rg
open Go.ChangeShapes Go.WideShapes Go.RowKit Wo Sr Wi Rm
set_option linter.unusedVariables false
theorem snoc_tm (l : List Rp) (p : Rp) (i : Nat) : tm (l ++ [p]) i = if i < l.length then tm l i else if i = l.length then p.1 else 0 := by
  unfold tm
  rw [List.getD_eq_getElem?_getD, List.getD_eq_getElem?_getD, List.getElem?_append]
  split
  · rfl
  · split
    · rename_i h; subst h; simp
    · rw [List.getElem?_eq_none (by simp; omega)]; rfl
theorem snoc_vl (l : List Rp) (p : Rp) (i : Nat) : vl (l ++ [p]) i = if i < l.length then vl l i else if i = l.length then p.2 else 0 := by
  unfold vl
  rw [List.getD_eq_getElem?_getD, List.getD_eq_getElem?_getD, List.getElem?_append]
  split
  · rfl
  · split
    · rename_i h; subst h; simp
    · rw [List.getElem?_eq_none (by simp; omega)]; rfl
theorem asc_snoc {l : List Rp} (h : Asc l) (a b : Int) (ha : ∀ i, i < l.length → tm l i < a) (a0 : 0 ≤ a) (a1 : a ≤ 1099511627776) (b0 : -1000 ≤ b) (b1 : b ≤ 1000) : Asc (l ++ [(a, b)]) := by
  have hl : (l ++ [(a, b)]).length = l.length + 1 := by simp
  refine ⟨fun i hi => ?_, fun i hi => ?_⟩
  · rw [hl] at hi
    rw [snoc_tm, snoc_vl]
    by_cases h2 : i < l.length
    · rw [if_pos h2, if_pos h2]; exact h.1 i h2
    · rw [if_neg h2, if_neg h2, if_pos (by omega), if_pos (by omega)]; exact ⟨a0, a1, b0, b1⟩
  · rw [hl] at hi
    rw [snoc_tm, snoc_tm, if_pos (by omega)]
    by_cases h2 : i + 1 < l.length
    · rw [if_pos h2]; exact h.2 i h2
    · rw [if_neg h2, if_pos (by omega)]; exact ha i (by omega)
theorem asc_nil : Asc [] := ⟨fun i hi => by simp at hi, fun i hi => by simp at hi⟩
/-- a new row of readings that ascend -/
def SomeAsc (g m : Nat) (w : World) (e : Ending) (w' : World) : Prop := ∃ (v : Value) (k : Nat) (l : List Rp), e = .returned v ∧ w'.ownsRow w.heap.size 28 2 v k (rs l) ∧ l.length = k ∧ k ≤ m ∧ Asc l ∧ (0 < k → tm l 0 ≤ 1099511627488) ∧ Ok w' g ∧ Ch g w w'
def AI (N : Nat) (g base : Nat) (w : World) (s5 s6 s7 : Value) (wr : World) : Prop := ∃ (k : Nat) (l : List Rp) (t i : Int) (V : World) (u : Value), V = wr ∧ u = s5 ∧ k ≤ N ∧ s7 = .int .i64 i ∧ i = (N : Int) - (k : Int) ∧ s6 = .int .i64 t ∧
  wr.ownsRow base 28 2 s5 k (rs l) ∧ l.length = k ∧ Asc l ∧ (∀ i, i < k → tm l i ≤ t) ∧ 0 ≤ t ∧ t ≤ 1099511627476 + 12 * (k : Int) ∧ (0 < k → tm l 0 ≤ 1099511627488) ∧ Ok wr g ∧ Ch g w wr ∧ base ≤ wr.heap.size
theorem ai_step {N g k : Nat} {w wr w1 w2 : World} {s5 v' : Value} {l : List Rp} {t x y : Int} (hgb : g < w.heap.size) (hk : k < N) (hN : N ≤ 25) (hL : l.length = k) (hv : Asc l) (hle : ∀ i, i < k → tm l i ≤ t) (t0 : 0 ≤ t) (t1 : t ≤ 1099511627476 + 12 * (k : Int)) (hf : 0 < k → tm l 0 ≤ 1099511627488) (x0 : 1 ≤ x) (x1 : x ≤ 12) (y0 : -1000 ≤ y) (y1 : y ≤ 1000)
    (hown : wr.ownsRow w.heap.size 28 2 s5 k (rs l)) (ho1 : Ok w1 g) (hc1 : Ch g wr w1) (hb : Ch g w wr) (hbase : w.heap.size ≤ wr.heap.size) (o : Obj)
    (hown2 : w2.ownsRow w.heap.size 28 2 v' (k + 1) (rs (l ++ [(t + x, y)]))) (hgr : (w1.alloc o).grownBy w2 s5.ownBlock) :
    AI N g w.heap.size w v' (.int .i64 (t + x)) (.int .i64 ((N : Int) - (k : Int) - 1)) w2 := by
  have hrow : ∀ b, s5.ownBlock = some b → w.heap.size ≤ b := fun b e => (hown.lt b e).1
  refine ⟨k + 1, l ++ [(t + x, y)], t + x, _, _, _, rfl, rfl, by omega, rfl, by omega, rfl, hown2, by simp [hL], asc_snoc hv _ _ (fun i hi => by have := hle i (by omega); omega) (by omega) (by omega) y0 y1, fun i hi => ?_, by omega, by omega, fun _ => ?_, ?_, ?_, ?_⟩
  · rw [snoc_tm]
    by_cases h2 : i < l.length
    · rw [if_pos h2]; have := hle i (by omega); omega
    · rw [if_neg h2, if_pos (by omega)]; exact Int.le_refl _
  · rw [snoc_tm]
    by_cases h2 : 0 < l.length
    · rw [if_pos h2]; exact hf (by omega)
    · rw [if_neg h2, if_pos (by omega)]; show t + x ≤ _; omega
  · exact ok_grown (ho1.bel (Bel.rf.al _)) hgr (fun b e => by have := hrow b e; omega)
  · exact ch_grown ((hb.tr hc1).al _) hgr hrow
  · have := hgr.size
    have := hc1.sz
    simp at *
    omega
end Go.Proofs.Ytgcjangnlbhicaa.Rg
