/- pieces.divide, and pieces.starts behind it. -/
import Derived.Test.YtkonknkoggfeaaaPie1
namespace Go.Proofs.Ytkonknkoggfeaaa.Pc
open Go.RowKit Go.Shelf Wo Sr Wi
set_option linter.unusedVariables false
attribute [local go_sem] Oper.semAt_some
theorem div_in (F : Fence) (d : Nat) (hf : F.fn 60) (hro : F.round = none) (m n : Int) (w : World) :
    CallsIn F d Try.prog 60 #[.int .i64 m, .int .i64 n] w fun e w' => e = .returned (.func (.func 69) #[] #[.pointer (some ⟨w.heap.size + 1, 0, none⟩), .pointer (some ⟨w.heap.size, 0, none⟩)]) ∧ w' = (w.alloc (.cells #[.int .i64 m] 3)).alloc (.cells #[.int .i64 n] 3) := by
  refine callsIn_of_wp Try.func60 rfl hf ?_ hro
  simp only [Try.ntmps60, List.size_toArray, List.length_cons, List.length_nil, Nat.reduceAdd, Nat.reduceSub, Array.replicate_succ, Array.replicate_zero, List.push_toArray, List.append_toArray, List.nil_append, List.cons_append]
  gi_wp2
  go_ret
  exact ⟨by simp, rfl⟩
theorem div_stops (F : Fence) (d : Nat) (hf : F.fn 69) (hro : F.round = none) (hd : 1 ≤ d) (Bm Bn m n : Nat) (n1 : 1 ≤ n) (n8 : n ≤ 8) (m32 : m ≤ 32) (w : World) (hm : Bm < w.heap.size) (hn : Bn < w.heap.size)
    (hBm : w.cell? ⟨Bm, 0, none⟩ = some (.int .i64 (m : Int))) (hBn : w.cell? ⟨Bn, 0, none⟩ = some (.int .i64 (n : Int))) :
    SeqStopsK F d Try.prog 69 #[.pointer (some ⟨Bn, 0, none⟩), .pointer (some ⟨Bm, 0, none⟩)] (enp m n) (Kpc Bm Bn) (fun ys => ys.map Fin.val = List.range n) (fun _ => True) n w := fun l J Jx W hW hJ _ hY h0 =>
  div1_in F d hf hro hd l Bm Bn m n n1 n8 m32 J Jx W hJ hY ((hW.cell (p := ⟨Bm, 0, none⟩) hm).trans hBm) ((hW.cell (p := ⟨Bn, 0, none⟩) hn).trans hBn) h0
theorem kpc_t {Bm Bn : Nat} {A B C : World} (h : Kpc Bm Bn A B) (k : Kpc Bm Bn B C) : Kpc Bm Bn A C := fun b hb => (k b hb).trans (h b hb)
theorem kpc_b {Bm Bn n₀ : Nat} (hm : Bm < n₀) (hn : Bn < n₀) (W : World) (l : Nat) (o o' : Obj) (hl : n₀ ≤ l) (_ : W.heap[l]? = some o) (_ : o.isCells = false) (_ : o.isWalk = false) : Kpc Bm Bn W (W.putObj l o') := fun b hb => by
  have hbl : b ≠ l := by rcases hb with rfl | rfl <;> omega
  apply World.cell?_of_block
  unfold World.putObj
  simp [hbl.symm]
theorem kpc_bl {Bm Bn n₀ : Nat} (hm : Bm < n₀) (hn : Bn < n₀) {W W' : World} (h : Below n₀ W W') : Kpc Bm Bn W W' := fun b hb => h.cell (p := ⟨b, 0, none⟩) (by rcases hb with rfl | rfl <;> assumption)
/-- the starts of the pieces that have come -/
def stl (m n : Nat) (pre : List (Fin n)) : List Int := pre.map fun x => (st m n x.val : Int)
theorem info_i : (Try.prog.info? 3).map (fun i => (i.zero, i.size, i.bytes)) = some (some (.int .i64 0), 1, 8) := by kernel_rfl
theorem own_ne {W : World} {base k size : Nat} {e : TypeId} {v : Value} {xs : List Value} (h : W.ownsRow base e size v k xs) {b : Nat} (hb : b < base) : some b ≠ v.ownBlock := by
  intro hg
  rcases h.2 with ⟨rfl, _⟩ | ⟨g, cap, cur, rfl, hh, _⟩
  · cases hg
  · injection hg with hg
    have : b = g := hg
    omega
theorem own_nd {W : World} {base k size : Nat} {e : TypeId} {v : Value} {xs : List Value} (h : W.ownsRow base e size v k xs) {b : Nat} {o : Obj} (hb : W.heap[b]? = some o) (ho : o.isCells = false) : some b ≠ v.ownBlock := by
  intro hg
  rcases h.2 with ⟨rfl, _⟩ | ⟨g, cap, cur, rfl, _, hh, _⟩
  · cases hg
  · injection hg with hg
    have : b = g := hg
    subst this
    rw [hb] at hh
    cases hh
    cases ho
theorem own_lo {w : World} {base base' size n : Nat} {e : TypeId} {v : Value} {xs : List Value} (h : w.ownsRow base e size v n xs) (hb : base' ≤ base) : w.ownsRow base' e size v n xs := by
  refine ⟨h.1, ?_⟩
  rcases h.2 with hn | ⟨g, cap, cur, rfl, hbb, rest⟩
  · exact .inl hn
  · exact .inr ⟨g, cap, cur, rfl, by omega, rest⟩
theorem cell_lt {W : World} {b k : Nat} {v : Value} (h : W.cell? ⟨b, k, none⟩ = some v) : b < W.heap.size := by
  obtain ⟨o, ho, _⟩ := cells_of_cell h
  exact (Array.getElem?_eq_some_iff.1 ho).1
set_option maxRecDepth 100000 in
set_option maxHeartbeats 2000000 in
theorem starts_in (F : Fence) (d : Nat) (h3 : F.fn 51) (h4 : F.fn 60) (h5 : F.fn 69) (hro : F.round = none) (hd : 3 ≤ d) (m n : Nat) (n1 : 1 ≤ n) (n8 : n ≤ 8) (m32 : m ≤ 32) (w : World) :
    CallsIn F d Try.prog 51 #[.int .i64 (m : Int), .int .i64 (n : Int)] w fun e W' => ∃ v, e = .returned v ∧ W'.ownsRow w.heap.size 3 1 v (n + 1) (zs ((List.range n).map (fun k => (st m n k : Int)) ++ [(m : Int)])) ∧ Below w.heap.size w W' := by
  have h1 : 1 ≤ d := by omega
  obtain ⟨i0, hi, hz0, hz1, hz2⟩ := info_parts info_i
  refine callsIn_of_wp_marks Try.func51 rfl h3 ?_ hro
  simp only [Try.ntmps51, List.size_toArray, List.length_cons, List.length_nil, Nat.reduceAdd, Nat.reduceSub, Array.replicate_succ, Array.replicate_zero, List.push_toArray, List.append_toArray, List.nil_append, List.cons_append]
  gi_wp2_with (gi_at_call 60; refine (div_in F (d - 1) h4 hro _ _ _).mono ?_; rintro e w' ⟨rfl, rfl⟩)
  have bO := Boxed.new w 22 (.slice none 0 0)
  have bM := Boxed.new (w.alloc (.cells #[.slice none 0 0] 22)) 3 (.int .i64 (m : Int))
  have bN := Boxed.new ((w.alloc (.cells #[.slice none 0 0] 22)).alloc (.cells #[.int .i64 (m : Int)] 3)) 3 (.int .i64 (n : Int))
  simp only [World.size_alloc] at bM bN
  have hB0 : Below w.heap.size w (((w.alloc (.cells #[.slice none 0 0] 22)).alloc (.cells #[.int .i64 (m : Int)] 3)).alloc (.cells #[.int .i64 (n : Int)] 3)) := (((Below.refl _ w).alloc (Nat.le_refl _) _).alloc (by simp) _).alloc (by simp; omega) _
  refine wpIn_rangeFunc_ownH hro h1 (gf := 69) (lb := #[.pointer (some ⟨w.heap.size + 1 + 1, 0, none⟩), .pointer (some ⟨w.heap.size + 1, 0, none⟩)]) rfl h5 (enters_of Try.func69 (by kernel_rfl) rfl)
    (div_stops F (d - 1) h5 hro (by omega) (w.heap.size + 1) (w.heap.size + 1 + 1) m n n1 n8 m32 _ (by simp) (by simp) (bM.alloc _).cell bN.cell) kpc_t (fun W l o o' hl h2 h3 h4 => kpc_b (n₀ := w.heap.size + 1 + 1 + 1) (by omega) (by omega) W l o o' (by simp at hl; omega) h2 h3 h4) (Below.refl _ _) (fun _ => rfl)
    (fun pre W => ((∃ v, Boxed W w.heap.size 22 v ∧ W.ownsRow (w.heap.size + 1 + 1 + 1) 3 1 v pre.length (zs (stl m n pre)) ∧ True) ∧ W.cell? ⟨w.heap.size + 1 + 1, 0, none⟩ = some (.int .i64 (n : Int))) ∧ Below w.heap.size w W)
    (fun _ _ _ => False)
    (OwnFrom.and (OwnFrom.and (Own.from (holdsRow_own (w.heap.size + 1 + 1 + 1) w.heap.size 22 3 1 (fun pre => pre.length) (fun pre => zs (stl m n pre)) (fun _ _ => True)) _) (fun s A B row h hg hr => cell_kept h hg (fun r e => (hr r e).2))) (ownFrom_below (Nat.le_refl _) (by simp; omega)))
    (fun _ _ _ _ _ hs _ _ => hs)
    ⟨⟨⟨_, (bO.alloc _).alloc _, World.ownsRow_nil _ _ _ _, trivial⟩, bN.cell⟩, hB0⟩
    (fun x a' W => ∃ Bx, w.heap.size + 1 + 1 + 1 ≤ Bx ∧ W.cell? ⟨Bx, 0, none⟩ = some (.int .i64 (st m n x.val : Int)) ∧ a' = { tmps := #[.int .i64 (m : Int), .int .i64 (n : Int), undef, undef, .slice none 0 0, .pointer (some ⟨w.heap.size, 0, none⟩), .pointer (some ⟨Bx, 0, none⟩), .int .i64 (m : Int), .int .i64 (n : Int), .func (.func 69) #[] #[.pointer (some ⟨w.heap.size + 1 + 1, 0, none⟩), .pointer (some ⟨w.heap.size + 1, 0, none⟩)], .agg #[.int .i64 (st m n x.val : Int), .int .i64 (st m n (x.val + 1) : Int)], undef, undef, undef, undef, undef, undef, undef, undef, undef], defers := [] })
    (fun x a' _ A B row hs hg hr => by obtain ⟨Bx, q1, q2, q3⟩ := hs; exact ⟨Bx, q1, cell_kept q2 hg (fun r e => (hr r e).2), q3⟩)
    ?assign ?body ?done ?stop
  case assign =>
    rintro l pre x W K ⟨⟨⟨v, hv, hrow, _⟩, hcn⟩, hB⟩ hK
    have hlt := cell_lt hcn
    unfold enp
    gi_wp2
    have hbw : Below (w.heap.size + 1 + 1 + 1) W (W.alloc (.cells #[.int .i64 (st m n x.val : Int), .int .i64 (st m n (x.val + 1) : Int)] 79)) := (Below.refl _ W).alloc (by omega) _
    exact hK _ _ ((KeepsOthers.alloc _ _).from _) (kpc_bl (n₀ := w.heap.size + 1 + 1 + 1) (by omega) (by omega) hbw) ⟨⟨⟨v, hv.alloc _, hrow.alloc _, trivial⟩, (hbw.cell (p := ⟨w.heap.size + 1 + 1, 0, none⟩) (by show w.heap.size + 1 + 1 < _; omega)).trans hcn⟩, hB.alloc hB.size _⟩ ⟨W.heap.size, by omega, by unfold World.cell?; rw [World.alloc_heap_new]; rfl, rfl⟩
  case body =>
    rintro l pre x a' W hl ⟨r, hr⟩ ⟨⟨⟨v, hv, hrow, _⟩, hcn⟩, hB⟩ ⟨Bx, hBx, hcx, rfl⟩ hlt
    have hc := hv.cell
    have hszx := cell_lt hcx
    have hszn := cell_lt hcn
    gi_wp2_with (gi_at_builtin; refine wpListIn_append_own _ rfl _ _ 22 rfl (w.heap.size + 1 + 1 + 1) 3 i0 (.int .i64 0) 1 8 Try.underlying22 hi hz0 hz1 hz2 rfl (by decide) _ _ _ rfl (hrow.alloc _) ⟨W.heap.size, 0, none⟩ 1 1 [.int .i64 (st m n x.val : Int)] rfl rfl (cell_one_new _ _ _) (by simp [Value.oneCell']) (by unfold maxLen; omega) (by omega) (by simp; omega) ?_; intro v' w1 hown' hgrow _; obtain ⟨g', cap', rfl⟩ := ownsRow_succ hown'; obtain ⟨hv1, hv2, hr2, hk2, hb2⟩ := hv.appended (by decide) (own_lo hrow (by omega)) hB.size (Nat.le_refl _) (own_lo hown' (by omega)) hgrow; have hc1 := hv1.cell; have hf1 := hv1.frozen)
    have hne := hgrow.block
    have kc : ∀ b, b = w.heap.size + 1 ∨ b = w.heap.size + 1 + 1 → (w1.setCell ⟨w.heap.size, 0, none⟩ (.slice (some ⟨g', 0, none⟩) (pre.length + 1) cap')).cell? ⟨b, 0, none⟩ = W.cell? ⟨b, 0, none⟩ := fun b hb => by
      have hb1 : b ≠ w.heap.size := by omega
      have hb2 : b < w.heap.size + 1 + 1 + 1 := by omega
      refine Eq.trans (by apply World.cell?_setCell_other; intro e; exact hb1 (congrArg Addr.block e).symm) ?_
      refine (World.cell?_of_block (hne b (by rw [World.size_alloc]; omega) (own_ne hrow hb2))).trans ?_
      exact World.cell?_of_block (Below.heap_alloc _ _ _ (by show b < _; omega))
    exact ⟨hk2.from _, kc, ⟨⟨_, hv2, by
      have e1 : (pre ++ [x]).length = pre.length + 1 := by simp
      have e2 : zs (stl m n (pre ++ [x])) = zs (stl m n pre) ++ [.int .i64 (st m n x.val : Int)] := by simp [zs, stl]
      rw [e1, e2]
      exact hown'.kept (grownBy_setCell' w1 _ _) (.inr (hv1.not_row (by decide) hown').symm), trivial⟩, (kc _ (.inr rfl)).trans hcn⟩, hB.trans hb2⟩
  case done =>
    rintro D ys W hD hys ⟨⟨⟨v, hv, hrow, _⟩, hcn⟩, hB⟩ hK
    have hc := hv.cell
    have hszn := cell_lt hcn
    have hly : ys.length = n := by have := congrArg List.length hys; simpa using this
    gi_wp2_with (gi_at_builtin; refine wpListIn_append_own _ rfl _ _ 22 rfl (w.heap.size + 1 + 1 + 1) 3 i0 (.int .i64 0) 1 8 Try.underlying22 hi hz0 hz1 hz2 rfl (by decide) _ _ _ rfl (hrow.alloc _) ⟨W.heap.size, 0, none⟩ 1 1 [.int .i64 (m : Int)] rfl rfl (cell_one_new _ _ _) (by simp [Value.oneCell']) (by unfold maxLen; omega) (by omega) (by simp; omega) ?_; intro v' w1 hown' hgrow _; obtain ⟨g', cap', rfl⟩ := ownsRow_succ hown')
    have hDl : D < W.heap.size := (Array.getElem?_eq_some_iff.1 hK).1
    have hK1 : w1.heap[D]? = some (.deferred (some [])) := (hgrow.block D (by rw [World.size_alloc]; omega) (own_nd hrow hK rfl)).trans ((Below.heap_alloc _ _ _ hDl).trans hK)
    refine ⟨by simp, .inl ⟨_, _, rfl, run_takeDeferred hK1, ?_⟩⟩
    have e1 : ys.length = n := hly
    have e2 : zs (stl m n ys) ++ [.int .i64 (m : Int)] = zs ((List.range n).map (fun k => (st m n k : Int)) ++ [(m : Int)]) := by
      rw [← hys]; simp [zs, stl]
    have hb2 : Below w.heap.size W w1 := ((Below.refl _ W).alloc hB.size _).trans ⟨hgrow.os, hgrow.tape, hgrow.output, hgrow.size, fun b hb => hgrow.block b (by have := hB.size; rw [World.size_alloc]; omega) (own_ne hrow (by omega))⟩
    rw [e1, e2] at hown'
    exact ⟨_, results_tmp rfl _ _ _, _, rfl, own_lo (ownsRow_putObj hown' _ hK1 rfl) (by omega), (hB.trans hb2).trans (belowK_b (w := w) (Nat.le_refl _) w1 D _ _ (by simp at hD; omega) hK1 rfl rfl)⟩
  case stop =>
    rintro D c pre W _ _ h _
    exact h.elim
end Go.Proofs.Ytkonknkoggfeaaa.Pc
