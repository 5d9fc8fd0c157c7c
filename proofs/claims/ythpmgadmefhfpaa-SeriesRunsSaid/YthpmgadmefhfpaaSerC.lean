/- slices.Collect of the runs; series.Runs; rows of runs. -/
import Derived.Test.YthpmgadmefhfpaaSer3
import Derived.Test.YthpmgadmefhfpaaSer8
namespace Go.Proofs.Ythpmgadmefhfpaa.Se
open Go.RowKit Go.Shelf Wo Sr Wi
set_option linter.unusedVariables false
attribute [local go_sem] Oper.semAt_some
/-- runs, flat -/
def rr (l : List (Nat × Nat)) : List Value := l.flatMap fun p => [.int .i64 (p.1 : Int), .int .i64 (p.2 : Int)]
theorem rr_cons (p : Nat × Nat) (l : List (Nat × Nat)) : rr (p :: l) = .int .i64 (p.1 : Int) :: .int .i64 (p.2 : Int) :: rr l := rfl
theorem rr_app (a b : List (Nat × Nat)) : rr (a ++ b) = rr a ++ rr b := by simp [rr]
def fr (l : List (Nat × Nat)) (i : Nat) : Nat := (l.getD i (0, 0)).1
def ct (l : List (Nat × Nat)) (i : Nat) : Nat := (l.getD i (0, 0)).2
theorem rr_at (l : List (Nat × Nat)) (i : Nat) (h : i < l.length) : (rr l)[i * 2]? = some (.int .i64 (fr l i : Int)) ∧ (rr l)[i * 2 + 1]? = some (.int .i64 (ct l i : Int)) := by
  induction l generalizing i with
  | nil => simp at h
  | cons p l ih =>
    rcases i with _ | i
    · exact ⟨rfl, rfl⟩
    · have := ih i (by simpa using h)
      rw [rr_cons, show (i + 1) * 2 = i * 2 + 1 + 1 by omega]
      simpa [fr, ct] using this
def Zq (w : World) (A : Option Addr) (n : Nat) (l : List (Nat × Nat)) : Prop := l.length = n ∧ (0 < n → ∃ g : Nat, A = some ⟨g, 0, none⟩ ∧ g < w.heap.size ∧ ∀ j, j < n → w.cell? ⟨g, j * 2, none⟩ = some (.int .i64 (fr l j : Int)) ∧ w.cell? ⟨g, j * 2 + 1, none⟩ = some (.int .i64 (ct l j : Int)))
theorem Zq.bel {w w' : World} {A : Option Addr} {n : Nat} {l : List (Nat × Nat)} (h : Zq w A n l) (hb : Bel w w') : Zq w' A n l :=
  ⟨h.1, fun hn => by
    obtain ⟨ad, e, hx, hc⟩ := h.2 hn
    exact ⟨ad, e, by have := hb.size; omega, fun j hj => ⟨hb.kp (hc j hj).1, hb.kp (hc j hj).2⟩⟩⟩
theorem own_zq {w : World} {base k : Nat} {v : Value} {l : List (Nat × Nat)} (hr : w.ownsRow base 31 2 v k (rr l)) (hk : l.length = k) : ∃ A c, v = .slice A k c ∧ Zq w A k l := by
  rcases hr.2 with ⟨rfl, rfl⟩ | ⟨g, cap, cur, rfl, hb, hg, rest⟩
  · exact ⟨none, 0, rfl, hk, fun h => by omega⟩
  · refine ⟨_, cap, rfl, hk, fun hn => ⟨_, rfl, (hr.lt g rfl).2, fun j hj => ?_⟩⟩
    have e := rr_at l j (by omega)
    have h1 := hr.cells (g := g) rfl _ _ e.1
    have h2 := hr.cells (g := g) rfl _ _ e.2
    rw [add_row] at h1 h2
    exact ⟨h1, h2⟩
theorem info_run : (Try.prog.info? 31).map (fun i => (i.zero, i.size, i.bytes)) = some (some (.agg #[.int .i64 0, .int .i64 0]), 2, 16) := by kernel_rfl
set_option maxRecDepth 100000 in
set_option maxHeartbeats 4000000 in
theorem aseq_in (Bx : Nat) (A : Option Addr) (c n : Nat) (L : List Int) (hn : n ≤ 2000) (w : World) (hbx : w.cell? ⟨Bx, 0, none⟩ = some (.slice A n c)) (hz : Zi w A n L) :
    CallsIn Fence.wide 3 Try.prog 38 #[.slice none 0 0, .func (.func 39) #[] #[.pointer (some ⟨Bx, 0, none⟩)]] w fun e W' => ∃ v, e = .returned v ∧ W'.ownsRow w.heap.size 31 2 v (rns L 0 0).length (rr (rns L 0 0)) ∧ Below w.heap.size w W' := by
  obtain ⟨i0, hi, hz0, hz1, hz2⟩ := info_parts info_run
  have HI := Lib.hid (And.intro hi (And.intro hz0 (And.intro hz1 hz2)))
  have hxl := World.block_lt_of_cell? w _ hbx
  have hne : 0 < n → ∀ ad, A = some ad → ad.block ≠ w.heap.size := fun h ad e => by have := zi_lt hz ad h e; omega
  clear hi hz0 hz1 hz2
  refine callsIn_of_wp_marks Try.func38 rfl trivial ?_ rfl
  simp only [Try.ntmps38, List.size_toArray, List.length_cons, List.length_nil, Nat.reduceAdd, Nat.reduceSub, Array.replicate_succ, Array.replicate_zero, List.push_toArray, List.append_toArray, List.nil_append, List.cons_append]
  gi_wp2
  have bO := Boxed.new w 28 (.slice none 0 0)
  refine wpIn_rangeFunc_ownH rfl (by omega) (gf := 39) (lb := #[.pointer (some ⟨Bx, 0, none⟩)]) rfl trivial (enters_of Try.func39 (by kernel_rfl) rfl)
    (runs_stops 2 (by omega) w.heap.size Bx A c n L (by omega) _ (by simp; exact Nat.lt_succ_of_lt hxl) (by have : Bx < w.heap.size := hxl; omega) (kp_al hbx _) (hz.bel (Bel.rf.al _)) hne) kq_t (fun W l o o' hl h2 h3 h4 => kq_b W l o o' hl h2) (Below.refl _ _) (fun _ => rfl)
    (fun pre W => ((∃ v, Boxed W w.heap.size 28 v ∧ W.ownsRow (w.heap.size + 1) 31 2 v pre.length (rr (rv pre)) ∧ True) ∧ w.heap.size + 1 ≤ W.heap.size) ∧ Below w.heap.size w W)
    (fun _ _ _ => False)
    (OwnFrom.and (OwnFrom.and (Own.from (holdsRow_own (w.heap.size + 1) w.heap.size 28 31 2 (fun pre => pre.length) (fun pre => rr (rv pre)) (fun _ _ => True)) _) (fun s A B row h hg hr => Nat.le_trans h hg.size)) (ownFrom_below (Nat.le_refl _) (by simp)))
    (fun _ _ _ _ _ hs _ _ => hs)
    ⟨⟨⟨_, bO, World.ownsRow_nil _ _ _ _, trivial⟩, by simp⟩, (Below.refl _ w).alloc (Nat.le_refl _) _⟩
    (fun x a' W => ∃ By, w.heap.size + 1 ≤ By ∧ Bk W By 31 #[.int .i64 (x.1.1 : Int), .int .i64 (x.1.2 : Int)] ∧ a' = { tmps := #[.slice none 0 0, .func (.func 39) #[] #[.pointer (some ⟨Bx, 0, none⟩)], .pointer (some ⟨w.heap.size, 0, none⟩), undef, .slice none 0 0, .pointer (some ⟨By, 0, none⟩), .func (.func 39) #[] #[.pointer (some ⟨Bx, 0, none⟩)], .agg #[.int .i64 (x.1.1 : Int), .int .i64 (x.1.2 : Int)], undef, undef, undef, undef, undef], defers := [] })
    (fun x a' _ A B row hs hg hr => by obtain ⟨By, q1, q2, q3⟩ := hs; exact ⟨By, q1, bk_own q2 hg hr, q3⟩)
    ?assign ?body ?done ?stop
  case assign =>
    rintro l pre x W K ⟨⟨⟨v, hv, hrow, _⟩, hsz2⟩, hB⟩ hK
    have hvl := hv.lt
    unfold encr
    gi_wp2
    have hbw : Below (w.heap.size + 1) W (W.alloc (.cells #[.int .i64 (x.1.1 : Int), .int .i64 (x.1.2 : Int)] 31)) := (Below.refl _ W).alloc hsz2 _
    exact hK _ _ ((KeepsOthers.alloc _ _).from _) (by have := kq_bl (Bo := w.heap.size) hbw hsz2; simpa using this) ⟨⟨⟨v, hv.alloc _, hrow.alloc _, trivial⟩, by simp; omega⟩, hB.alloc hB.size _⟩ ⟨W.heap.size, hsz2, Bk.nw _ _ _, rfl⟩
  case body =>
    rintro l pre x a' W hl ⟨r, hr⟩ ⟨⟨⟨v, hv, hrow, _⟩, hsz2⟩, hB⟩ ⟨By, hBy, hkx, rfl⟩ hlt
    have hc := hv.cell
    obtain ⟨x1, hx1⟩ : ∃ y, x.1.1 = y := ⟨_, rfl⟩
    obtain ⟨x2, hx2⟩ : ∃ y, x.1.2 = y := ⟨_, rfl⟩
    rw [hx1, hx2] at hkx ⊢
    have hcx : W.cell? ⟨By, 0, none⟩ = some (.int .i64 (x1 : Int)) := hkx.cell 0
    have hcy : W.cell? ⟨By, 1, none⟩ = some (.int .i64 (x2 : Int)) := hkx.cell 1
    have hyl := hkx.lt
    have hvl := hv.lt
    have HX := Lib.hid (And.intro hx1 hx2)
    have HV := Lib.hid (And.intro hv (And.intro hrow (And.intro hsz2 hB)))
    clear hx1 hx2 hv hrow hsz2 hB hkx hr
    gi_wp2_with (gi_at_builtin; refine wpListIn_append_own _ rfl _ _ 28 rfl (w.heap.size + 1) 31 i0 (.agg #[.int .i64 0, .int .i64 0]) 2 16 Try.underlying28 HI.out.1 HI.out.2.1 HI.out.2.2.1 HI.out.2.2.2 rfl (by decide) _ _ _ rfl (HV.out.2.1.alloc _) ⟨W.heap.size, 0, none⟩ 1 1 [.int .i64 (x1 : Int), .int .i64 (x2 : Int)] rfl rfl (World.news_of_block (cs := #[.int .i64 (x1 : Int), .int .i64 (x2 : Int)]) (t := 31) (fr := (0, 0)) (heap_alloc_new _ _)) (by simp [Value.oneCell']) (by unfold maxLen; omega) (by omega) (by have := HV.out.2.2.1; simp; omega) ?_; intro v2 w1 hown' hgrow _; obtain ⟨g', cap', rfl⟩ := ownsRow_succ hown'; obtain ⟨hv1, hv2, hr2, hk2, hb2⟩ := HV.out.1.appended (by decide) (own_lo HV.out.2.1 (by omega)) HV.out.2.2.2.size (Nat.le_refl _) (own_lo hown' (by omega)) hgrow; have hc1 := hv1.cell; have hf1 := hv1.frozen; have HG := Lib.hid (And.intro hown' (And.intro hgrow (And.intro hv1 (And.intro hv2 (And.intro hk2 hb2))))); clear hown' hgrow hv1 hv2 hr2 hk2 hb2)
    obtain ⟨hv, hrow, hsz2, hB⟩ := HV.out
    obtain ⟨hown', hgrow, hv1, hv2, hk2, hb2⟩ := HG.out
    have hne := hgrow.block
    have kc : ∀ b, b < w.heap.size + 1 → b ≠ w.heap.size → (w1.setCell ⟨w.heap.size, 0, none⟩ (.slice (some ⟨g', 0, none⟩) (pre.length + 1) cap')).heap[b]? = W.heap[b]? := fun b hb0 hb1 => by
      refine Eq.trans (Below.heap_setCell _ _ _ b hb1) ?_
      refine (hne b (by rw [World.size_alloc]; omega) (own_ne hrow hb0)).trans ?_
      exact Below.heap_alloc _ _ _ (by omega)
    have hszw : w.heap.size + 1 ≤ (w1.setCell ⟨w.heap.size, 0, none⟩ (.slice (some ⟨g', 0, none⟩) (pre.length + 1) cap')).heap.size := by
      have := hgrow.size
      simp [World.setCell] at *
      omega
    refine ⟨hk2.from _, ⟨fun b h1 h2 => by simp at h1; exact kc b h1 h2, by simpa using hszw⟩, ⟨⟨_, hv2, ?_, trivial⟩, hszw⟩, hB.trans hb2⟩
    have e1 : (pre ++ [x]).length = pre.length + 1 := by simp
    have e2 : rr (rv (pre ++ [x])) = rr (rv pre) ++ [.int .i64 (x1 : Int), .int .i64 (x2 : Int)] := by
      rw [rv_snoc, rr_app, ← HX.out.1, ← HX.out.2]; rfl
    rw [e1, e2]
    exact hown'.kept (grownBy_setCell' w1 _ _) (.inr (hv1.not_row (by decide) hown').symm)
  case done =>
    rintro D ys W hD hys ⟨⟨⟨v, hv, hrow, _⟩, hsz2⟩, hB⟩ hK
    have hc := hv.cell
    have hlen : ys.length = (rns L 0 0).length := by rw [← hys]; simp [rv]
    rw [hys, hlen] at hrow
    clear hys hlen
    have HR := Lib.hid hrow
    have HB := Lib.hid hB
    clear hrow hB
    gi_wp2
    refine ⟨by simp, .inl ⟨_, _, rfl, run_takeDeferred hK, ?_⟩⟩
    exact ⟨_, results_tmp rfl _ _ _, _, rfl, own_lo (ownsRow_putObj HR.out _ hK rfl) (by omega), HB.out.trans (belowK_b (w := w) (Nat.le_refl _) W D _ _ (by simp at hD; omega) hK rfl rfl)⟩
  case stop =>
    rintro D c pre W _ _ h _
    exact h.elim
end Go.Proofs.Ythpmgadmefhfpaa.Se
