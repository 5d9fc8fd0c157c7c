/- Readings moved in time; two rows that grow side by side. -/
import Derived.Test.YtdkibffbaamkkaaRsm
import Derived.Test.YtdkibffbaamkkaaRegionInv
namespace Go.Proofs.Ytdkibffbaamkkaa.Rg
open Go.ChangeShapes Go.WideShapes Go.RowKit Wo Sr Wi Rm
set_option linter.unusedVariables false
/-- the readings with their times below a bound -/
def lm (l : List Rp) : List Rp := l.map fun p => (p.1.tmod 1099511626776, p.2)
theorem lm_len (l : List Rp) : (lm l).length = l.length := by simp [lm]
theorem lm_tm (l : List Rp) (i : Nat) (h : i < l.length) : tm (lm l) i = (tm l i).tmod 1099511626776 := by
  unfold tm lm
  rw [List.getD_eq_getElem?_getD, List.getD_eq_getElem?_getD, List.getElem?_map, List.getElem?_eq_getElem h]; rfl
theorem lm_vl (l : List Rp) (i : Nat) (h : i < l.length) : vl (lm l) i = vl l i := by
  unfold vl lm
  rw [List.getD_eq_getElem?_getD, List.getD_eq_getElem?_getD, List.getElem?_map, List.getElem?_eq_getElem h]; rfl
theorem take_snoc (l : List Rp) (t : Nat) (h : t < l.length) : l.take (t + 1) = l.take t ++ [(tm l t, vl l t)] := by
  rw [List.take_add_one, List.getElem?_eq_getElem h]
  congr 1
  simp [tm, vl, List.getD_eq_getElem?_getD, h]
theorem mv_app (a b : List Rp) (x : Int) : mv (a ++ b) x = mv a x ++ mv b x := by simp [mv]
theorem asc_mv {l : List Rp} (h : Asc l) {b : Int} (b0 : 0 ≤ b) (h2 : ∀ i, i < l.length → tm l i + b ≤ 1099511627776) : Asc (mv l b) := by
  refine ⟨fun i hi => ?_, fun i hi => ?_⟩
  · rw [mv_len] at hi
    rw [mv_tm l b i hi, mv_vl]
    have := h.1 i hi
    have := h2 i hi
    omega
  · rw [mv_len] at hi
    rw [mv_tm l b i (by omega), mv_tm l b (i + 1) hi]
    have := h.2 i hi
    omega
theorem vals_mv (l : List Rp) (b f s r q : Int) (N : Nat) : vals (mv l b) (f + b) s r q N = vals l f s r q N := by
  refine lists_eq (by rw [vals_len, vals_len]) fun i hi => ?_
  rw [vals_len] at hi
  rw [vals_at _ _ _ _ _ _ _ hi, vals_at _ _ _ _ _ _ _ hi, show f + b + (i : Int) * s = f + (i : Int) * s + b by omega, mv_val]
theorem gv_mv {f s r q b : Int} {N : Nat} (h : Gv f s (N : Int) r q) (hf : f ≤ 1073741839) (hs : s ≤ 9) (hN : N ≤ 19) (b0 : 0 ≤ b) (b1 : b ≤ 65535) : Gv (f + b) s (N : Int) r q := by
  obtain ⟨f0, f1, s0, s1, c0, c1, h1, r0, r1, q0, q1⟩ := h
  refine ⟨by omega, by omega, s0, s1, c0, c1, fun h => ?_, r0, r1, q0, q1⟩
  have c : ((N : Int) - 1) * s ≤ ((N : Int) - 1) * 9 := Int.mul_le_mul_of_nonneg_left hs (by omega)
  omega
/-- the first readings ascend and are early -/
def Ea (l : List Rp) (i : Nat) : Prop := ∀ j, j < i → tm l j ≤ 1073741824 ∧ (0 < j → tm l (j - 1) < tm l j)
theorem ea_asc {l : List Rp} (h : Ea l l.length) (hv : ∀ i, i < l.length → 0 ≤ tm l i ∧ -1000 ≤ vl l i ∧ vl l i ≤ 1000) : Asc l := by
  refine ⟨fun i hi => ?_, fun i hi => ?_⟩
  · have := hv i hi
    have := (h i hi).1
    omega
  · have := (h (i + 1) hi).2 (by omega)
    simpa using this
theorem ea_next {l : List Rp} {i : Nat} (h : Ea l i) (h1 : tm l i ≤ 1073741824) (h2 : 0 < i → tm l (i - 1) < tm l i) : Ea l (i + 1) := fun j hj => by
  rcases Nat.lt_or_ge j i with hk | hk
  · exact h j hk
  · obtain rfl : j = i := by omega
    exact ⟨h1, h2⟩
theorem ea_le {l : List Rp} {i j : Nat} (h : Ea l i) (hj : j ≤ i) : Ea l j := fun k hk => h k (by omega)
/-- two rows of the call's own, apart from each other and from the block p9 -/
structure Pr (v2 W : World) (p9 : Nat) (xv yv : Value) (nx ny : Nat) (lx ly : List Rp) (T x : Int) : Prop where
  bel : Bel v2 W
  ox : W.ownsRow v2.heap.size 40 2 xv nx (rs lx)
  oy : W.ownsRow v2.heap.size 40 2 yv ny (rs ly)
  ap : ∀ b, xv.ownBlock = some b → yv.ownBlock ≠ some b
  k9 : Bk W p9 40 #[.int .i64 T, .int .i64 x]
  nx9 : xv.ownBlock ≠ some p9
  ny9 : yv.ownBlock ≠ some p9
theorem Pr.al {v2 W : World} {p9 : Nat} {xv yv : Value} {nx ny : Nat} {lx ly : List Rp} {T x : Int} (h : Pr v2 W p9 xv yv nx ny lx ly T x) (o : Obj) : Pr v2 (W.alloc o) p9 xv yv nx ny lx ly T x :=
  ⟨h.bel.al o, h.ox.alloc o, h.oy.alloc o, h.ap, h.k9.al o, h.nx9, h.ny9⟩
theorem Pr.drw {v2 W : World} {p9 : Nat} {xv yv : Value} {nx ny : Nat} {lx ly : List Rp} {T x : Int} (h : Pr v2 W p9 xv yv nx ny lx ly T x) : Pr v2 W.drew p9 xv yv nx ny lx ly T x :=
  ⟨h.bel.drw, own_bel h.ox Bel.rf.drw, own_bel h.oy Bel.rf.drw, h.ap, h.k9.drw, h.nx9, h.ny9⟩
theorem Pr.up {v2 W W' : World} {p9 : Nat} {xv yv : Value} {nx ny : Nat} {lx ly : List Rp} {T x : Int} (h : Pr v2 W p9 xv yv nx ny lx ly T x) (hb : Bel W W') : Pr v2 W' p9 xv yv nx ny lx ly T x :=
  ⟨h.bel.tr hb, own_bel h.ox hb, own_bel h.oy hb, h.ap, h.k9.bel hb, h.nx9, h.ny9⟩
theorem mv_snoc (a : List Rp) (T x b : Int) : mv (a ++ [(T, x)]) b = mv a b ++ [(T + b, x)] := by rw [mv_app]; rfl
theorem bk_gr {W W' : World} {g : Nat} {t : TypeId} {cs : Array Value} {row : Option Nat} (h : Bk W g t cs) (hg : W.grownBy W' row) (hr : row ≠ some g) : Bk W' g t cs :=
  (hg.block g h.lt (fun e => hr e.symm)).trans h
theorem Pr.sx {v2 W : World} {p9 : Nat} {xv yv : Value} {nx ny : Nat} {lx ly : List Rp} {T x : Int} (h : Pr v2 W p9 xv yv nx ny lx ly T x) : Pr v2 W p9 yv xv ny nx ly lx T x :=
  ⟨h.bel, h.oy, h.ox, fun b e e2 => h.ap b e2 e, h.k9, h.ny9, h.nx9⟩
theorem Pr.ax {v2 W W' : World} {p9 : Nat} {xv yv xv' : Value} {nx ny : Nat} {lx ly : List Rp} {T x : Int} {p : Rp} (h : Pr v2 W p9 xv yv nx ny lx ly T x)
    (h1 : W'.ownsRow v2.heap.size 40 2 xv' (nx + 1) (rs (lx ++ [p]))) (hg : W.grownBy W' xv.ownBlock) (hat : xv'.ownBlock = xv.ownBlock ∨ xv'.ownBlock = some W.heap.size) :
    Pr v2 W' p9 xv' yv (nx + 1) ny (lx ++ [p]) ly T x := by
  have hlt := h.k9.lt
  refine ⟨h.bel.grown hg h.bel.size (fun k e => (h.ox.lt k e).1), h1, h.oy.kept hg (Classical.or_iff_not_imp_left.2 fun hn e => ?_), fun b e e2 => ?_, bk_gr h.k9 hg h.nx9, fun e => ?_, h.ny9⟩
  · rcases hx : xv.ownBlock with _ | q
    · rw [hx] at e; exact hn e
    · rw [hx] at e; exact h.ap q hx e
  · rcases hat with hat | hat
    · rw [hat] at e; exact h.ap b e e2
    · rw [hat] at e; cases e
      have := (h.oy.lt _ e2).2
      omega
  · rcases hat with hat | hat
    · rw [hat] at e; exact h.nx9 e
    · rw [hat] at e; cases e; omega
theorem own_ne {W : World} {B n g : Nat} {e : TypeId} {size : Nat} {v : Value} {xs : List Value} (h : W.ownsRow B e size v n xs) (hg : g = W.heap.size) : v.ownBlock ≠ some g := fun e2 => by
  have := (h.lt _ e2).2
  omega
theorem rep_get {q n : Nat} : (Array.replicate n false).getD q false = false := by
  rw [Array.getD_eq_getD_getElem?, Array.getElem?_replicate]
  split <;> simp
theorem get_def {li : Array Bool} {q : Nat} (h : li.getD q false = true) : li.getD q true = true := by
  rw [Array.getD_eq_getD_getElem?] at h ⊢
  cases hx : li[q]?
  · rw [hx] at h; cases h
  · rw [hx] at h; exact h
theorem get_set {li : Array Bool} {q : Nat} (h : li.getD q true = false) : (li.setIfInBounds q true).getD q false = true := by
  rw [Array.getD_eq_getD_getElem?] at h ⊢
  have hl : q < li.size := by
    rcases Nat.lt_or_ge q li.size with hl | hl
    · exact hl
    · rw [Array.getElem?_eq_none hl] at h; cases h
  rw [Array.getElem?_setIfInBounds, if_pos rfl, if_pos hl]; rfl
end Go.Proofs.Ytdkibffbaamkkaa.Rg
