/- Readings in another order; two rows that grow side by side. -/
import Derived.Test.YtgcjangnlbhicaaStB
namespace Go.Proofs.Ytgcjangnlbhicaa.St
open Go.ChangeShapes Go.WideShapes Go.RowKit Wo Sr Wi Rm Rg
set_option linter.unusedVariables false
def lst (f : Nat → Rp) (n : Nat) : List Rp := (List.range n).map f
theorem lst_zero (f : Nat → Rp) : lst f 0 = [] := rfl
theorem lst_succ (f : Nat → Rp) (n : Nat) : lst f (n + 1) = lst f n ++ [f n] := by unfold lst; rw [List.range_succ, List.map_append]; rfl
theorem lst_len (f : Nat → Rp) (n : Nat) : (lst f n).length = n := by unfold lst; simp
theorem lst_rd (f : Nat → Rp) (n i : Nat) (h : i < n) : rd (lst f n) i = f i := by
  unfold rd lst
  rw [List.getD_eq_getElem?_getD, List.getElem?_map, List.getElem?_range h]
  rfl
theorem lst_rev (l : List Rp) : lst (fun i => rd l (l.length - 1 - i)) l.length = l.reverse := by
  refine rd_ext (by rw [lst_len, List.length_reverse]) fun i hi => ?_
  rw [lst_len] at hi
  rw [lst_rd _ _ _ hi]
  unfold rd
  rw [List.getD_eq_getElem?_getD, List.getD_eq_getElem?_getD, List.getElem?_reverse hi]
theorem lst_rot (l : List Rp) (T : Nat) : (lst (fun i => rd l ((i + T) % l.length)) l.length).Perm l := by
  rcases Nat.eq_zero_or_pos l.length with h0 | h0
  · have : l = [] := List.length_eq_zero_iff.1 h0
    subst this
    exact List.Perm.refl _
  · have hs : T % l.length < l.length := Nat.mod_lt _ h0
    have e : lst (fun i => rd l ((i + T) % l.length)) l.length = l.drop (T % l.length) ++ l.take (T % l.length) := by
      refine rd_ext (by rw [lst_len]; simp; omega) fun i hi => ?_
      rw [lst_len] at hi
      rw [lst_rd _ _ _ hi]
      have e1 : (i + T) % l.length = (i + T % l.length) % l.length := by rw [Nat.add_mod, Nat.mod_eq_of_lt hi]
      generalize T % l.length = s at *
      rw [e1]
      unfold rd
      simp only [List.getD_eq_getElem?_getD]
      rcases Nat.lt_or_ge i (l.length - s) with h | h
      · rw [List.getElem?_append_left (by simp; omega), List.getElem?_drop, Nat.mod_eq_of_lt (by omega), Nat.add_comm]
      · rw [List.getElem?_append_right (by simp; omega), List.length_drop, List.getElem?_take_of_lt (by omega)]
        rw [show (i + s) % l.length = i - (l.length - s) by rw [show i + s = (i - (l.length - s)) + l.length by omega, Nat.add_mod_right, Nat.mod_eq_of_lt (by omega)]]
    rw [e]
    exact List.perm_append_comm.trans (by rw [List.take_append_drop])
theorem vrs_mem {l : List Rp} : Vrs l ↔ ∀ p ∈ l, Vr p.1 p.2 := by
  constructor
  · intro h p hp
    obtain ⟨j, hj, e⟩ := mem_at hp
    have := h j hj
    rw [tm_rd, vl_rd, e] at this
    exact this
  · intro h i hi
    rw [tm_rd, vl_rd]
    exact h _ (at_mem hi)
theorem vrs_perm {l m : List Rp} (h : l.Perm m) (hv : Vrs m) : Vrs l := vrs_mem.2 fun p hp => vrs_mem.1 hv p (h.mem_iff.1 hp)
/-- two rows of the call's own, apart from each other -/
structure Pq (v2 W : World) (xv yv : Value) (nx ny : Nat) (lx ly : List Rp) : Prop where
  bel : Bel v2 W
  ox : W.ownsRow v2.heap.size 28 2 xv nx (rs lx)
  oy : W.ownsRow v2.heap.size 28 2 yv ny (rs ly)
  ap : ∀ b, xv.ownBlock = some b → yv.ownBlock ≠ some b
theorem Pq.nil {v2 W : World} (h : Bel v2 W) : Pq v2 W (.slice none 0 0) (.slice none 0 0) 0 0 [] [] := ⟨h, World.ownsRow_nil _ _ _ _, World.ownsRow_nil _ _ _ _, fun b e => by cases e⟩
theorem Pq.up {v2 W W' : World} {xv yv : Value} {nx ny : Nat} {lx ly : List Rp} (h : Pq v2 W xv yv nx ny lx ly) (hb : Bel W W') : Pq v2 W' xv yv nx ny lx ly :=
  ⟨h.bel.tr hb, own_bel h.ox hb, own_bel h.oy hb, h.ap⟩
theorem Pq.sx {v2 W : World} {xv yv : Value} {nx ny : Nat} {lx ly : List Rp} (h : Pq v2 W xv yv nx ny lx ly) : Pq v2 W yv xv ny nx ly lx :=
  ⟨h.bel, h.oy, h.ox, fun b e e2 => h.ap b e2 e⟩
theorem Pq.ax {v2 W W' : World} {xv yv xv' : Value} {nx ny : Nat} {lx ly : List Rp} {p : Rp} (h : Pq v2 W xv yv nx ny lx ly)
    (h1 : W'.ownsRow v2.heap.size 28 2 xv' (nx + 1) (rs (lx ++ [p]))) (hg : W.grownBy W' xv.ownBlock) (hat : xv'.ownBlock = xv.ownBlock ∨ xv'.ownBlock = some W.heap.size) :
    Pq v2 W' xv' yv (nx + 1) ny (lx ++ [p]) ly := by
  refine ⟨h.bel.grown hg h.bel.size (fun k e => (h.ox.lt k e).1), h1, h.oy.kept hg (Classical.or_iff_not_imp_left.2 fun hn e => ?_), fun b e e2 => ?_⟩
  · rcases hx : xv.ownBlock with _ | q
    · rw [hx] at e; exact hn e
    · rw [hx] at e; exact h.ap q hx e
  · rcases hat with hat | hat
    · rw [hat] at e; exact h.ap b e e2
    · rw [hat] at e; cases e
      have := (h.oy.lt _ e2).2
      omega
end Go.Proofs.Ytgcjangnlbhicaa.St
