/- pieces.sums. -/
import Derived.Test.YtkonknkoggfeaaaPie2
import Derived.Test.YtkonknkoggfeaaaAdr
namespace Go.Proofs.Ytkonknkoggfeaaa.Pc
open Go.RowKit Go.Shelf Wo Sr Wi
set_option linter.unusedVariables false
attribute [local go_sem] Oper.semAt_some
/-- the sums of the pieces that have come -/
def sgl (L : List Int) (m n : Nat) (pre : List (Fin n)) : List Int := pre.map fun x => pg L (st m n x.val) (st m n (x.val + 1))
theorem heap_set_ne (w : World) (p : Addr) (v : Value) {b : Nat} (h : b ≠ p.block) : (w.setCell p v).heap[b]? = w.heap[b]? := by
  exact Below.heap_setCell _ _ _ b h
set_option maxRecDepth 100000 in
set_option maxHeartbeats 2000000 in
theorem sums_in (F : Fence) (d : Nat) (h3 : F.fn 53) (h4 : F.fn 60) (h5 : F.fn 69) (hro : F.round = none) (hd : 3 ≤ d) (hx : Addr) (c m n : Nat) (L : List Int) (n1 : 1 ≤ n) (n8 : n ≤ 8) (m32 : m ≤ 32) (mc : m ≤ c) (nm : n ≤ m) (hL : ∀ x ∈ L, -64000 ≤ x ∧ x ≤ 64000) (w : World) (hz : Zi w (some hx) m L) (hxl : hx.block < w.heap.size) :
    CallsIn F d Try.prog 53 #[.slice (some hx) m c, .int .i64 (n : Int)] w fun e W' => ∃ v, e = .returned v ∧ W'.ownsRow w.heap.size 3 1 v n (zs (pls L m n)) ∧ Below w.heap.size w W' := by
  have h1 : 1 ≤ d := by omega
  obtain ⟨i0, hi, hz0, hz1, hz2⟩ := info_parts info_i
  refine callsIn_of_wp_marks Try.func53 rfl h3 ?_ hro
  simp only [Try.ntmps53, List.size_toArray, List.length_cons, List.length_nil, Nat.reduceAdd, Nat.reduceSub, Array.replicate_succ, Array.replicate_zero, List.push_toArray, List.append_toArray, List.nil_append, List.cons_append]
  gi_wp2_with (gi_at_call 60; refine (div_in F (d - 1) h4 hro _ _ _).mono ?_; rintro e w' ⟨rfl, rfl⟩)
  have bX := Boxed.new w 22 (.slice (some hx) m c)
  have bO := Boxed.new (w.alloc (.cells #[.slice (some hx) m c] 22)) 22 (.slice none 0 0)
  have bM := Boxed.new ((w.alloc (.cells #[.slice (some hx) m c] 22)).alloc (.cells #[.slice none 0 0] 22)) 3 (.int .i64 (m : Int))
  have bN := Boxed.new (((w.alloc (.cells #[.slice (some hx) m c] 22)).alloc (.cells #[.slice none 0 0] 22)).alloc (.cells #[.int .i64 (m : Int)] 3)) 3 (.int .i64 (n : Int))
  simp only [World.size_alloc] at bM bN bO
  have hB0 : Below w.heap.size w ((((w.alloc (.cells #[.slice (some hx) m c] 22)).alloc (.cells #[.slice none 0 0] 22)).alloc (.cells #[.int .i64 (m : Int)] 3)).alloc (.cells #[.int .i64 (n : Int)] 3)) := ((((Below.refl _ w).alloc (Nat.le_refl _) _).alloc (by simp) _).alloc (by simp; omega) _).alloc (by simp; omega) _
  refine wpIn_rangeFunc_ownH hro h1 (gf := 69) (lb := #[.pointer (some ⟨w.heap.size + 1 + 1 + 1, 0, none⟩), .pointer (some ⟨w.heap.size + 1 + 1, 0, none⟩)]) rfl h5 (enters_of Try.func69 (by kernel_rfl) rfl)
    (div_stops F (d - 1) h5 hro (by omega) (w.heap.size + 1 + 1) (w.heap.size + 1 + 1 + 1) m n n1 n8 m32 _ (by simp) (by simp) (bM.alloc _).cell bN.cell) kpc_t (fun W l o o' hl h2 h3 h4 => kpc_b (n₀ := w.heap.size + 1 + 1 + 1 + 1) (by omega) (by omega) W l o o' (by simp at hl; omega) h2 h3 h4) (Below.refl _ _) (fun _ => rfl)
    (fun pre W => (((∃ v, Boxed W (w.heap.size + 1) 22 v ∧ W.ownsRow (w.heap.size + 1 + 1 + 1 + 1) 3 1 v pre.length (zs (sgl L m n pre)) ∧ True) ∧ Boxed W w.heap.size 22 (.slice (some hx) m c)) ∧ W.cell? ⟨w.heap.size + 1 + 1 + 1, 0, none⟩ = some (.int .i64 (n : Int))) ∧ Below w.heap.size w W)
    (fun _ _ _ => False)
    (OwnFrom.and (OwnFrom.and (OwnFrom.and (Own.from (holdsRow_own (w.heap.size + 1 + 1 + 1 + 1) (w.heap.size + 1) 22 3 1 (fun pre => pre.length) (fun pre => zs (sgl L m n pre)) (fun _ _ => True)) _) (Own.from (boxed_own w.heap.size 22 (fun _ => .slice (some hx) m c)) _)) (fun s A B row h hg hr => cell_kept h hg (fun r e => (hr r e).2))) (ownFrom_below (Nat.le_refl _) (by simp; omega)))
    (fun _ _ _ _ _ hs _ _ => hs)
    ⟨⟨⟨⟨_, (bO.alloc _).alloc _, World.ownsRow_nil _ _ _ _, trivial⟩, ((bX.alloc _).alloc _).alloc _⟩, bN.cell⟩, hB0⟩
    (fun x a' W => ∃ Bx, w.heap.size + 1 + 1 + 1 + 1 ≤ Bx ∧ W.cell? ⟨Bx, 0, none⟩ = some (.int .i64 (st m n x.val : Int)) ∧ W.cell? ⟨Bx, 1, none⟩ = some (.int .i64 (st m n (x.val + 1) : Int)) ∧ a' = { tmps := #[.slice (some hx) m c, .int .i64 (n : Int), .pointer (some ⟨w.heap.size, 0, none⟩), undef, .slice none 0 0, .pointer (some ⟨w.heap.size + 1, 0, none⟩), .pointer (some ⟨Bx, 0, none⟩), undef, undef, undef, .slice (some hx) m c, .int .i64 (m : Int), .int .i64 (n : Int), .func (.func 69) #[] #[.pointer (some ⟨w.heap.size + 1 + 1 + 1, 0, none⟩), .pointer (some ⟨w.heap.size + 1 + 1, 0, none⟩)], .agg #[.int .i64 (st m n x.val : Int), .int .i64 (st m n (x.val + 1) : Int)], undef, undef, undef, undef, undef, undef, undef, undef, undef, undef, undef, undef, undef, undef, undef, undef, undef, undef, undef, undef], defers := [] })
    (fun x a' _ A B row hs hg hr => by obtain ⟨Bx, q1, q2, q2', q3⟩ := hs; exact ⟨Bx, q1, cell_kept q2 hg (fun r e => (hr r e).2), cell_kept q2' hg (fun r e => (hr r e).2), q3⟩)
    ?assign ?body ?done ?stop
  case assign =>
    rintro l pre x W K ⟨⟨⟨⟨v, hv, hrow, _⟩, hX⟩, hcn⟩, hB⟩ hK
    have hlt := cell_lt hcn
    unfold enp
    gi_wp2
    have hbw : Below (w.heap.size + 1 + 1 + 1 + 1) W (W.alloc (.cells #[.int .i64 (st m n x.val : Int), .int .i64 (st m n (x.val + 1) : Int)] 79)) := (Below.refl _ W).alloc (by omega) _
    exact hK _ _ ((KeepsOthers.alloc _ _).from _) (kpc_bl (n₀ := w.heap.size + 1 + 1 + 1 + 1) (by omega) (by omega) hbw) ⟨⟨⟨⟨v, hv.alloc _, hrow.alloc _, trivial⟩, hX.alloc _⟩, (hbw.cell (p := ⟨w.heap.size + 1 + 1 + 1, 0, none⟩) (by show w.heap.size + 1 + 1 + 1 < _; omega)).trans hcn⟩, hB.alloc hB.size _⟩ ⟨W.heap.size, by omega, by unfold World.cell?; rw [World.alloc_heap_new]; rfl, by unfold World.cell?; rw [World.alloc_heap_new]; rfl, rfl⟩
  case body =>
    rintro l pre x a' W hl ⟨r, hr⟩ ⟨⟨⟨⟨v, hv, hrow, _⟩, hX⟩, hcn⟩, hB⟩ ⟨Bx, hBx, hcx, hcy, rfl⟩ hlt
    have hc := hv.cell
    have hcX := hX.cell
    have hszx := cell_lt hcx
    have hszn := cell_lt hcn
    have l0 : st m n x.val ≤ st m n (x.val + 1) := st_mono m n _ _ (by omega)
    have l2 := (st_step m n x.val (by omega)).1
    have l3 : 1 ≤ m / n := (Nat.le_div_iff_mul_le (by omega)).2 (by omega)
    have l1 : st m n (x.val + 1) ≤ m := st_le m n _ (by omega) (by have := x.2; omega)
    obtain ⟨s0, hs0⟩ : ∃ s, st m n x.val = s := ⟨_, rfl⟩
    obtain ⟨s1, hs1⟩ : ∃ s, st m n (x.val + 1) = s := ⟨_, rfl⟩
    rw [hs0] at l0 l2 hcx ⊢
    rw [hs1] at l0 l1 l2 hcy ⊢
    obtain ⟨ln, hln⟩ : ∃ k, s1 - s0 = k := ⟨_, rfl⟩
    have s0c : (s0 : Int) ≤ (s1 : Int) := by omega
    have hcs : ¬ c = s0 := by omega
    have s1c : (s1 : Int) ≤ (c : Int) := by omega
    have HX := Lib.hid (And.intro hz (And.intro hL (And.intro hv (And.intro hrow (And.intro hX (And.intro hcn (And.intro hB (And.intro hr (And.intro hs0 hs1)))))))))
    clear hz hL hv hrow hX hcn hB hr hs0 hs1
    clear l2 l3
    gi_wp2
    gi_loopw [7, 22] (fun s7 s22 wr => ∃ t : Nat, W = wr ∧ t ≤ ln ∧ s22 = .int .i64 (t : Int) ∧ s7 = .int .i64 (su id ((L.drop s0).take t))) (fun s7 s22 _ => ln - (intOf s22).toNat)
    case atStart => exact ⟨0, by trivial, Nat.zero_le _, rfl, rfl⟩
    case round =>
      obtain ⟨t, hwr, ht, rfl, rfl⟩ := hrel
      subst hwr
      rcases Nat.lt_or_ge t ln with htl | htl
      · have hbz : Bel w W := HX.out.2.2.2.2.2.2.1
        have cx : W.cell? ((hx.add s0).add t) = some (.int .i64 (L.getD (s0 + t) 0)) := (HX.out.1.bel hbz).at2 s0 t (by omega)
        have hbd := pg_bd (B := 64000) HX.out.2.1 (by omega) s0 (s0 + (t + 1))
        unfold pg at hbd
        rw [Nat.add_sub_cancel_left] at hbd
        have hnx := su_next id (L.drop s0) t (by rw [List.length_drop, HX.out.1.1]; omega)
        have hge : (L.drop s0).getD t 0 = L.getD (s0 + t) 0 := by simp [List.getD_eq_getElem?_getD, List.getElem?_drop]
        rw [hge] at hnx
        obtain ⟨y, hy⟩ : ∃ y, L.getD (s0 + t) 0 = y := ⟨_, rfl⟩
        obtain ⟨p, hp⟩ : ∃ p, su id ((L.drop s0).take t) = p := ⟨_, rfl⟩
        obtain ⟨q, hq⟩ : ∃ q, su id ((L.drop s0).take (t + 1)) = q := ⟨_, rfl⟩
        rw [hy, hp, hq] at hnx
        rw [hy] at cx
        rw [hq] at hbd
        rw [hp]
        have hpq : p + y = q := hnx.symm
        have wq : IntKind.i64.wrap q = q := IntWalk.i64_in _ (by omega)
        have ti : (t : Int) < (ln : Int) := by omega
        have HQ := Lib.hid (And.intro hq (And.intro hp hy))
        clear hnx hbd hge hq hp hy hbz
        gi_wp2
        go_roundw
        case rel => exact ⟨t + 1, by trivial, by omega, by go_num, by rw [HQ.out.1]⟩
        case measure => simp [intOf]; omega
      · obtain rfl : t = ln := by omega
        obtain ⟨hz, hL, hv, hrow, hX, hcn, hB, hr, hs0, hs1⟩ := HX.out
        obtain ⟨S, hS⟩ : ∃ S, su id ((L.drop s0).take t) = S := ⟨_, rfl⟩
        rw [hS]
        gi_wp2_with (gi_at_builtin; refine wpListIn_append_own _ rfl _ _ 22 rfl (w.heap.size + 1 + 1 + 1 + 1) 3 i0 (.int .i64 0) 1 8 Try.underlying22 hi hz0 hz1 hz2 rfl (by decide) _ _ _ rfl (hrow.alloc _) ⟨W.heap.size, 0, none⟩ 1 1 [.int .i64 S] rfl rfl (cell_one_new _ _ _) (by simp [Value.oneCell']) (by unfold maxLen; omega) (by omega) (by simp; omega) ?_; intro v' w1 hown' hgrow _; obtain ⟨g', cap', rfl⟩ := ownsRow_succ hown'; obtain ⟨hv1, hv2, hr2, hk2, hb2⟩ := hv.appended (n₀ := w.heap.size + 1) (by decide) (own_lo hrow (by omega)) (by omega) (Nat.le_refl _) (own_lo hown' (by omega)) hgrow; have hc1 := hv1.cell; have hf1 := hv1.frozen)
        have hne := hgrow.block
        have kc : ∀ b, b ≠ w.heap.size + 1 → b < w.heap.size + 1 + 1 + 1 + 1 → (w1.setCell ⟨w.heap.size + 1, 0, none⟩ (.slice (some ⟨g', 0, none⟩) (pre.length + 1) cap')).heap[b]? = W.heap[b]? := fun b hb1 hb2 => by
          refine Eq.trans (heap_set_ne _ _ _ hb1) ?_
          refine (hne b (by rw [World.size_alloc]; omega) (own_ne hrow hb2)).trans ?_
          exact Below.heap_alloc _ _ _ (by omega)
        exact ⟨hk2.from _, fun b hb => World.cell?_of_block (kc b (by rcases hb with rfl | rfl <;> omega) (by rcases hb with rfl | rfl <;> omega)), ⟨⟨⟨_, hv2, by
          have e1 : (pre ++ [x]).length = pre.length + 1 := by simp
          have e2 : zs (sgl L m n (pre ++ [x])) = zs (sgl L m n pre) ++ [.int .i64 S] := by
            have : pg L (st m n x.val) (st m n (x.val + 1)) = S := by rw [hs0, hs1]; unfold pg; rw [hln]; exact hS
            simp [zs, sgl, this]
          rw [e1, e2]
          exact hown'.kept (grownBy_setCell' w1 _ _) (.inr (hv1.not_row (by decide) hown').symm), trivial⟩, (kc w.heap.size (by omega) (by omega)).trans hX⟩, (World.cell?_of_block (kc (w.heap.size + 1 + 1 + 1) (by omega) (by omega))).trans hcn⟩, hB.trans (hb2.mono (by omega))⟩
  case done =>
    rintro D ys W hD hys ⟨⟨⟨⟨v, hv, hrow, _⟩, hX⟩, hcn⟩, hB⟩ hK
    have hc := hv.cell
    have hszn := cell_lt hcn
    have hly : ys.length = n := by have := congrArg List.length hys; simpa using this
    gi_wp2
    refine ⟨by simp, .inl ⟨_, _, rfl, run_takeDeferred hK, ?_⟩⟩
    have e2 : zs (sgl L m n ys) = zs (pls L m n) := by
      unfold pls
      rw [← hys]; simp [zs, sgl]
    rw [hly, e2] at hrow
    exact ⟨_, results_tmp rfl _ _ _, v, rfl, own_lo (ownsRow_putObj hrow _ hK rfl) (by omega), hB.trans (belowK_b (w := w) (Nat.le_refl _) W D _ _ (by simp at hD; omega) hK rfl rfl)⟩
  case stop =>
    rintro D c pre W _ _ h _
    exact h.elim
end Go.Proofs.Ytkonknkoggfeaaa.Pc
