/- Merged: Ser6 Ser8 SerC SerD SgVd SgRn SgRu SgSk SgSt. -/
import Derived.Test.YtaplbkfmedofcaaSer5
import Derived.Test.YtaplbkfmedofcaaSer3
import Derived.Test.YtaplbkfmedofcaaSer7
import Derived.BigQuiet
import Derived.Test.YtaplbkfmedofcaaSgA
namespace Go.Proofs.Ytaplbkfmedofcaa.Se
open Go.ChangeShapes Go.WideShapes Go.RowKit Wo Sr Wi
set_option linter.unusedVariables false
theorem good_out {L : List Int} {i m : Nat} (h : L.length < i + m) : good L m i = false := by
  unfold good; exact decide_eq_false (fun h2 => by omega)
theorem good_part {L : List Int} {i m : Nat} (h : i + m ≤ L.length) : (!good L m i) = true ↔ ∃ j, j < m ∧ ((L.drop i).take m).getD j 0 = 1073741824 := by
  have e : ∀ j, j < m → ((L.drop i).take m).getD j 0 = L.getD (i + j) 1073741824 := fun j hj => by
    simp only [List.getD_eq_getElem?_getD, List.getElem?_take, List.getElem?_drop, hj, if_true]
    rw [List.getElem?_eq_getElem (show i + j < L.length by omega)]; rfl
  constructor
  · intro hb
    have hg : ¬ good L m i = true := by simpa using hb
    rw [good_iff] at hg
    refine Classical.byContradiction fun hne => hg ⟨h, fun j hj h2 => hne ⟨j, hj, by rw [e j hj]; exact h2⟩⟩
  · rintro ⟨j, hj, h2⟩
    have : ¬ good L m i = true := by
      rw [good_iff]
      rintro ⟨_, h3⟩
      exact h3 j hj (by rw [← e j hj]; exact h2)
    simpa using this
theorem kp_far {w : World} {p q : Addr} {v : Value} (h : w.cell? p = some v) (hn : p.block ≠ q.block) (u : Value) : (w.setCell q u).cell? p = some v := (World.cell?_setCell_other _ _ _ _ (fun e => hn (congrArg Addr.block e).symm)).trans h
def SomeCut (st sp : Int) (k : Nat) (Z : List Int) (w : World) (e : Ending) (w' : World) : Prop := ∃ A c, e = .returned (.tuple #[.agg #[.int .i64 st, .int .i64 sp, .slice A k c], .int .i64 0]) ∧ Vs w' A k c Z ∧ Bel w w'
end Go.Proofs.Ytaplbkfmedofcaa.Se
namespace Go.Proofs.Ytaplbkfmedofcaa.Se
open Go.ChangeShapes Go.WideShapes Go.RowKit Wo Sr Wi
set_option linter.unusedVariables false
def stz (L : List Int) (m : Nat) : List Int := (sts L m).map Int.ofNat
theorem stz_len (L : List Int) (m : Nat) : (stz L m).length = (sts L m).length := by simp [stz]
theorem stz_at {L : List Int} {m i : Nat} (h : i < (sts L m).length) : (stz L m).getD i 0 = ((sts L m).getD i 0 : Nat) := by
  simp [stz, List.getD_eq_getElem?_getD, h]
def SomeStarts (L : List Int) (m : Nat) (w : World) (e : Ending) (w' : World) : Prop := ∃ (A : Option Addr) (k c : Nat), e = .returned (.slice A k c) ∧ k = (sts L m).length ∧ Zi w' A k (stz L m) ∧ Bel w w'
theorem sts_ex : sts exL 2 = [0, 3, 4] := by decide
theorem we_ex : we exL 1 2 = 13 := by decide
theorem wz_ex : wz exL 1 2 = [] := by decide
theorem sb_ex : Sb 100 10 6 := by unfold Sb; decide
def SomeMiss (w : World) (e : Ending) (w' : World) : Prop := ∃ (A : Option Addr) (k c : Nat), e = .returned (.tuple #[.slice A k c, .int .i64 13]) ∧ Bel w w'
end Go.Proofs.Ytaplbkfmedofcaa.Se
namespace Go.Proofs.Ytaplbkfmedofcaa.Se
open Go.RowKit Go.Shelf Wo Sr Wi
set_option linter.unusedVariables false
attribute [local go_sem] Oper.semAt_some
/-- runs, flat -/
def rr (l : List (Nat × Nat)) : List Value := l.flatMap fun p => [.int .i64 (p.1 : Int), .int .i64 (p.2 : Int)]
theorem rr_cons (p : Nat × Nat) (l : List (Nat × Nat)) : rr (p :: l) = .int .i64 (p.1 : Int) :: .int .i64 (p.2 : Int) :: rr l := rfl
theorem rr_app (a b : List (Nat × Nat)) : rr (a ++ b) = rr a ++ rr b := by simp [rr]
def fr (l : List (Nat × Nat)) (i : Nat) : Nat := (l.getD i (0, 0)).1
def ct (l : List (Nat × Nat)) (i : Nat) : Nat := (l.getD i (0, 0)).2
theorem rr_at (l : List (Nat × Nat)) (i : Nat) (h : i < l.length) : (rr l)[i * 2]? = some (.int .i64 (fr l i : Int)) ∧ (rr l)[i * 2 + 1]? = some (.int .i64 (ct l i : Int)) := by
  induction l generalizing i with
  | nil => simp at h
  | cons p l ih =>
    rcases i with _ | i
    · exact ⟨rfl, rfl⟩
    · have := ih i (by simpa using h)
      rw [rr_cons, show (i + 1) * 2 = i * 2 + 1 + 1 by omega]
      simpa [fr, ct] using this
def Zq (w : World) (A : Option Addr) (n : Nat) (l : List (Nat × Nat)) : Prop := l.length = n ∧ (0 < n → ∃ g : Nat, A = some ⟨g, 0, none⟩ ∧ g < w.heap.size ∧ ∀ j, j < n → w.cell? ⟨g, j * 2, none⟩ = some (.int .i64 (fr l j : Int)) ∧ w.cell? ⟨g, j * 2 + 1, none⟩ = some (.int .i64 (ct l j : Int)))
theorem Zq.bel {w w' : World} {A : Option Addr} {n : Nat} {l : List (Nat × Nat)} (h : Zq w A n l) (hb : Bel w w') : Zq w' A n l :=
  ⟨h.1, fun hn => by
    obtain ⟨ad, e, hx, hc⟩ := h.2 hn
    exact ⟨ad, e, by have := hb.size; omega, fun j hj => ⟨hb.kp (hc j hj).1, hb.kp (hc j hj).2⟩⟩⟩
theorem own_zq {w : World} {base k : Nat} {v : Value} {l : List (Nat × Nat)} (hr : w.ownsRow base 60 2 v k (rr l)) (hk : l.length = k) : ∃ A c, v = .slice A k c ∧ Zq w A k l := by
  rcases hr.2 with ⟨rfl, rfl⟩ | ⟨g, cap, cur, rfl, hb, hg, rest⟩
  · exact ⟨none, 0, rfl, hk, fun h => by omega⟩
  · refine ⟨_, cap, rfl, hk, fun hn => ⟨_, rfl, (hr.lt g rfl).2, fun j hj => ?_⟩⟩
    have e := rr_at l j (by omega)
    have h1 := hr.cells (g := g) rfl _ _ e.1
    have h2 := hr.cells (g := g) rfl _ _ e.2
    rw [add_row] at h1 h2
    exact ⟨h1, h2⟩
theorem info_run : (Try.prog.info? 60).map (fun i => (i.zero, i.size, i.bytes)) = some (some (.agg #[.int .i64 0, .int .i64 0]), 2, 16) := by kernel_rfl
set_option maxRecDepth 100000 in
set_option maxHeartbeats 4000000 in
theorem aseq_in (Bx : Nat) (A : Option Addr) (c n : Nat) (L : List Int) (hn : n ≤ 2000) (w : World) (hbx : w.cell? ⟨Bx, 0, none⟩ = some (.slice A n c)) (hz : Zi w A n L) :
    CallsIn Fence.wide 3 Try.prog 58 #[.slice none 0 0, .func (.func 59) #[] #[.pointer (some ⟨Bx, 0, none⟩)]] w fun e W' => ∃ v, e = .returned v ∧ W'.ownsRow w.heap.size 60 2 v (rns L 0 0).length (rr (rns L 0 0)) ∧ Below w.heap.size w W' := by
  obtain ⟨i0, hi, hz0, hz1, hz2⟩ := info_parts info_run
  have HI := Lib.hid (And.intro hi (And.intro hz0 (And.intro hz1 hz2)))
  have hxl := World.block_lt_of_cell? w _ hbx
  have hne : 0 < n → ∀ ad, A = some ad → ad.block ≠ w.heap.size := fun h ad e => by have := zi_lt hz ad h e; omega
  clear hi hz0 hz1 hz2
  refine callsIn_of_wp_marks Try.func58 rfl trivial ?_ rfl
  simp only [Try.ntmps58, List.size_toArray, List.length_cons, List.length_nil, Nat.reduceAdd, Nat.reduceSub, Array.replicate_succ, Array.replicate_zero, List.push_toArray, List.append_toArray, List.nil_append, List.cons_append]
  gi_wp2
  have bO := Boxed.new w 57 (.slice none 0 0)
  refine wpIn_rangeFunc_ownH rfl (by omega) (gf := 59) (lb := #[.pointer (some ⟨Bx, 0, none⟩)]) rfl trivial (enters_of Try.func59 (by kernel_rfl) rfl)
    (runs_stops 2 (by omega) w.heap.size Bx A c n L (by omega) _ (by simp; exact Nat.lt_succ_of_lt hxl) (by have : Bx < w.heap.size := hxl; omega) (kp_al hbx _) (hz.bel (Bel.rf.al _)) hne) kq_t (fun W l o o' hl h2 h3 h4 => kq_b W l o o' hl h2) (Below.refl _ _) (fun _ => rfl)
    (fun pre W => ((∃ v, Boxed W w.heap.size 57 v ∧ W.ownsRow (w.heap.size + 1) 60 2 v pre.length (rr (rv pre)) ∧ True) ∧ w.heap.size + 1 ≤ W.heap.size) ∧ Below w.heap.size w W)
    (fun _ _ _ => False)
    (OwnFrom.and (OwnFrom.and (Own.from (holdsRow_own (w.heap.size + 1) w.heap.size 57 60 2 (fun pre => pre.length) (fun pre => rr (rv pre)) (fun _ _ => True)) _) (fun s A B row h hg hr => Nat.le_trans h hg.size)) (ownFrom_below (Nat.le_refl _) (by simp)))
    (fun _ _ _ _ _ hs _ _ => hs)
    ⟨⟨⟨_, bO, World.ownsRow_nil _ _ _ _, trivial⟩, by simp⟩, (Below.refl _ w).alloc (Nat.le_refl _) _⟩
    (fun x a' W => ∃ By, w.heap.size + 1 ≤ By ∧ Bk W By 60 #[.int .i64 (x.1.1 : Int), .int .i64 (x.1.2 : Int)] ∧ a' = { tmps := #[.slice none 0 0, .func (.func 59) #[] #[.pointer (some ⟨Bx, 0, none⟩)], .pointer (some ⟨w.heap.size, 0, none⟩), undef, .slice none 0 0, .pointer (some ⟨By, 0, none⟩), .func (.func 59) #[] #[.pointer (some ⟨Bx, 0, none⟩)], .agg #[.int .i64 (x.1.1 : Int), .int .i64 (x.1.2 : Int)], undef, undef, undef, undef, undef], defers := [] })
    (fun x a' _ A B row hs hg hr => by obtain ⟨By, q1, q2, q3⟩ := hs; exact ⟨By, q1, bk_own q2 hg hr, q3⟩)
    ?assign ?body ?done ?stop
  case assign =>
    rintro l pre x W K ⟨⟨⟨v, hv, hrow, _⟩, hsz2⟩, hB⟩ hK
    have hvl := hv.lt
    unfold encr
    gi_wp2
    have hbw : Below (w.heap.size + 1) W (W.alloc (.cells #[.int .i64 (x.1.1 : Int), .int .i64 (x.1.2 : Int)] 60)) := (Below.refl _ W).alloc hsz2 _
    exact hK _ _ ((KeepsOthers.alloc _ _).from _) (by have := kq_bl (Bo := w.heap.size) hbw hsz2; simpa using this) ⟨⟨⟨v, hv.alloc _, hrow.alloc _, trivial⟩, by simp; omega⟩, hB.alloc hB.size _⟩ ⟨W.heap.size, hsz2, Bk.nw _ _ _, rfl⟩
  case body =>
    rintro l pre x a' W hl ⟨r, hr⟩ ⟨⟨⟨v, hv, hrow, _⟩, hsz2⟩, hB⟩ ⟨By, hBy, hkx, rfl⟩ hlt
    have hc := hv.cell
    obtain ⟨x1, hx1⟩ : ∃ y, x.1.1 = y := ⟨_, rfl⟩
    obtain ⟨x2, hx2⟩ : ∃ y, x.1.2 = y := ⟨_, rfl⟩
    rw [hx1, hx2] at hkx ⊢
    have hcx : W.cell? ⟨By, 0, none⟩ = some (.int .i64 (x1 : Int)) := hkx.cell 0
    have hcy : W.cell? ⟨By, 1, none⟩ = some (.int .i64 (x2 : Int)) := hkx.cell 1
    have hyl := hkx.lt
    have hvl := hv.lt
    have HX := Lib.hid (And.intro hx1 hx2)
    have HV := Lib.hid (And.intro hv (And.intro hrow (And.intro hsz2 hB)))
    clear hx1 hx2 hv hrow hsz2 hB hkx hr
    gi_wp2_with (gi_at_builtin; refine wpListIn_append_own _ rfl _ _ 57 rfl (w.heap.size + 1) 60 i0 (.agg #[.int .i64 0, .int .i64 0]) 2 16 Try.underlying57 HI.out.1 HI.out.2.1 HI.out.2.2.1 HI.out.2.2.2 rfl (by decide) _ _ _ rfl (HV.out.2.1.alloc _) ⟨W.heap.size, 0, none⟩ 1 1 [.int .i64 (x1 : Int), .int .i64 (x2 : Int)] rfl rfl (World.news_of_block (cs := #[.int .i64 (x1 : Int), .int .i64 (x2 : Int)]) (t := 60) (fr := (0, 0)) (heap_alloc_new _ _)) (by simp [Value.oneCell']) (by unfold maxLen; omega) (by omega) (by have := HV.out.2.2.1; simp; omega) ?_; intro v2 w1 hown' hgrow _; obtain ⟨g', cap', rfl⟩ := ownsRow_succ hown'; obtain ⟨hv1, hv2, hr2, hk2, hb2⟩ := HV.out.1.appended (by decide) (own_lo HV.out.2.1 (by omega)) HV.out.2.2.2.size (Nat.le_refl _) (own_lo hown' (by omega)) hgrow; have hc1 := hv1.cell; have hf1 := hv1.frozen; have HG := Lib.hid (And.intro hown' (And.intro hgrow (And.intro hv1 (And.intro hv2 (And.intro hk2 hb2))))); clear hown' hgrow hv1 hv2 hr2 hk2 hb2)
    obtain ⟨hv, hrow, hsz2, hB⟩ := HV.out
    obtain ⟨hown', hgrow, hv1, hv2, hk2, hb2⟩ := HG.out
    have hne := hgrow.block
    have kc : ∀ b, b < w.heap.size + 1 → b ≠ w.heap.size → (w1.setCell ⟨w.heap.size, 0, none⟩ (.slice (some ⟨g', 0, none⟩) (pre.length + 1) cap')).heap[b]? = W.heap[b]? := fun b hb0 hb1 => by
      refine Eq.trans (Below.heap_setCell _ _ _ b hb1) ?_
      refine (hne b (by rw [World.size_alloc]; omega) (own_ne hrow hb0)).trans ?_
      exact Below.heap_alloc _ _ _ (by omega)
    have hszw : w.heap.size + 1 ≤ (w1.setCell ⟨w.heap.size, 0, none⟩ (.slice (some ⟨g', 0, none⟩) (pre.length + 1) cap')).heap.size := by
      have := hgrow.size
      simp [World.setCell] at *
      omega
    refine ⟨hk2.from _, ⟨fun b h1 h2 => by simp at h1; exact kc b h1 h2, by simpa using hszw⟩, ⟨⟨_, hv2, ?_, trivial⟩, hszw⟩, hB.trans hb2⟩
    have e1 : (pre ++ [x]).length = pre.length + 1 := by simp
    have e2 : rr (rv (pre ++ [x])) = rr (rv pre) ++ [.int .i64 (x1 : Int), .int .i64 (x2 : Int)] := by
      rw [rv_snoc, rr_app, ← HX.out.1, ← HX.out.2]; rfl
    rw [e1, e2]
    exact hown'.kept (grownBy_setCell' w1 _ _) (.inr (hv1.not_row (by decide) hown').symm)
  case done =>
    rintro D ys W hD hys ⟨⟨⟨v, hv, hrow, _⟩, hsz2⟩, hB⟩ hK
    have hc := hv.cell
    have hlen : ys.length = (rns L 0 0).length := by rw [← hys]; simp [rv]
    rw [hys, hlen] at hrow
    clear hys hlen
    have HR := Lib.hid hrow
    have HB := Lib.hid hB
    clear hrow hB
    gi_wp2
    refine ⟨by simp, .inl ⟨_, _, rfl, run_takeDeferred hK, ?_⟩⟩
    exact ⟨_, results_tmp rfl _ _ _, _, rfl, own_lo (ownsRow_putObj HR.out _ hK rfl) (by omega), HB.out.trans (belowK_b (w := w) (Nat.le_refl _) W D _ _ (by simp at hD; omega) hK rfl rfl)⟩
  case stop =>
    rintro D c pre W _ _ h _
    exact h.elim
end Go.Proofs.Ytaplbkfmedofcaa.Se
namespace Go.Proofs.Ytaplbkfmedofcaa.Se
open Go.ChangeShapes Go.WideShapes Go.RowKit Wo Sr Wi
set_option linter.unusedVariables false
def SomeRuns (L : List Int) (w : World) (e : Ending) (w' : World) : Prop := ∃ (A : Option Addr) (k c : Nat), e = .returned (.slice A k c) ∧ k = (rns L 0 0).length ∧ Zq w' A k (rns L 0 0) ∧ Bel w w'
theorem aseq_c (Bx : Nat) (A : Option Addr) (c n : Nat) (L : List Int) (hn : n ≤ 2000) (w : World) (hbx : w.cell? ⟨Bx, 0, none⟩ = some (.slice A n c)) (hz : Zi w A n L) :
    Calls Try.prog 58 #[.slice none 0 0, .func (.func 59) #[] #[.pointer (some ⟨Bx, 0, none⟩)]] w (SomeRuns L w) := by
  refine (callsIn_wide.1 (aseq_in Bx A c n L hn w hbx hz)).mono ?_
  rintro e w' ⟨v, rfl, hr, hb⟩
  obtain ⟨A', c', rfl, hz'⟩ := own_zq hr rfl
  exact ⟨A', _, c', rfl, rfl, hz', hb⟩
theorem collect_c (Bx : Nat) (A : Option Addr) (c n : Nat) (L : List Int) (hn : n ≤ 2000) (w : World) (hbx : w.cell? ⟨Bx, 0, none⟩ = some (.slice A n c)) (hz : Zi w A n L) :
    Calls Try.prog 52 #[.func (.func 59) #[] #[.pointer (some ⟨Bx, 0, none⟩)]] w (SomeRuns L w) := by
  have AS := Lib.hid (aseq_c Bx A c n L hn w hbx hz)
  clear hbx hz
  go_enter Try.func52, Try.ntmps52
  go_wp2_with fail
  go_at_call 58
  refine AS.out.mono ?_
  rintro e w2 ⟨A', k', c', rfl, hk', hz', hb'⟩
  have HX := Lib.hid (And.intro hk' (And.intro hz' hb'))
  clear hk' hz' hb'
  go_wp2
  go_ret
  exact ⟨A', k', c', rfl, HX.out.1, HX.out.2.1, HX.out.2.2⟩
theorem runs_c (st sp : Int) (A : Option Addr) (n c : Nat) (L : List Int) (h : Sb st sp n) (hs : Sv L) (w : World) (hz : Zi w A n L) :
    Calls Try.prog 37 #[.agg #[.int .i64 st, .int .i64 sp, .slice A n c]] w (SomeRuns L w) := by
  have VA : Hid (∀ W, Zi W A n L → _) := fun W hW => valid_ok st sp A n c L h hs W hW
  have RN : Hid (∀ W, _) := fun W => runs_ok A n c W
  have CC : Hid (∀ Bx W, W.cell? ⟨Bx, 0, none⟩ = some (.slice A n c) → Zi W A n L → _) := fun Bx W h1 h2 => collect_c Bx A c n L h.2.2.2.2 W h1 h2
  have HZ := Lib.hid hz
  have HK := Lib.hid (Bk.nw w 43 #[.int .i64 st, .int .i64 sp, .slice A n c])
  clear hz hs h
  go_enter Try.func37, Try.ntmps37
  go_wp2_with fail
  go_at_call 36
  refine (VA.out _ (HZ.out.bel (Bel.rf.al _))).mono ?_
  rintro e w2 ⟨rfl, hb2⟩
  have B1 := HK.out.bel hb2
  have d2 := B1.cell 2
  have HB2 : Hid (Bel w w2) := (Bel.rf.al _).tr hb2
  clear B1 hb2
  go_wp2_with fail
  go_at_call 53
  refine (RN.out _).mono ?_
  rintro e w3 ⟨rfl, rfl⟩
  go_wp2_with fail
  go_at_call 52
  refine (CC.out _ _ ((Bk.nw w2 22 #[.slice A n c]).cell 0) (HZ.out.bel (HB2.out.al _))).mono ?_
  rintro e w4 ⟨A', k', c', rfl, hk', hz', hb'⟩
  have HX := Lib.hid (And.intro hk' (And.intro hz' hb'))
  clear hk' hz' hb'
  go_wp2
  go_ret
  exact ⟨A', k', c', rfl, HX.out.1, HX.out.2.1, HB2.out.tr ((Bel.rf.al _).tr HX.out.2.2)⟩
/-- where the run before t ends -/
def ed (l : List (Nat × Nat)) : Nat → Int
  | 0 => -1
  | t + 1 => (fr l t : Int) + (ct l t : Int)
/-- the values of the first t runs -/
def sm (l : List (Nat × Nat)) : Nat → Nat
  | 0 => 0
  | t + 1 => sm l t + ct l t
theorem asc_at {W : List Int} : ∀ (l : List (Nat × Nat)) (e : Int) (t : Nat), Asc W e l → t < l.length → (t = 0 → e < (fr l 0 : Int)) ∧ (∀ u, t = u + 1 → (fr l u : Int) + (ct l u : Int) < (fr l t : Int)) ∧ 1 ≤ ct l t ∧ fr l t + ct l t ≤ W.length ∧ ∀ j, j < ct l t → W.getD (fr l t + j) 1073741824 ≠ 1073741824
  | [], e, t, _, ht => by simp at ht
  | r :: rs, e, 0, h, ht => ⟨fun _ => h.1, fun u hu => by omega, h.2.1, h.2.2.1, h.2.2.2.1⟩
  | r :: rs, e, t + 1, h, ht => by
    have ih := asc_at rs ((r.1 : Int) + r.2) t h.2.2.2.2 (by simpa using ht)
    refine ⟨fun h0 => by omega, fun u hu => ?_, ih.2.2.1, ih.2.2.2.1, ih.2.2.2.2⟩
    have : u = t := by omega
    subst this
    rcases u with _ | u
    · exact ih.1 rfl
    · exact ih.2.1 u rfl
theorem ed_lt {L : List Int} {t : Nat} (ht : t < (rns L 0 0).length) : ed (rns L 0 0) t < (fr (rns L 0 0) t : Int) := by
  have h := asc_at (rns L 0 0) (-1) t (asc_all L) ht
  rcases t with _ | t
  · exact h.1 rfl
  · exact h.2.1 t rfl
theorem sm_all : ∀ l : List (Nat × Nat), sm l l.length = (l.map Prod.snd).sum := by
  have key : ∀ (l : List (Nat × Nat)) (t : Nat), t ≤ l.length → sm l t = ((l.take t).map Prod.snd).sum := by
    intro l t
    induction t with
    | zero => intro _; simp [sm]
    | succ t ih =>
      intro ht
      have e : l.take (t + 1) = l.take t ++ [l.getD t (0, 0)] := by
        rw [List.take_succ_eq_append_getElem (by omega), List.getD_eq_getElem?_getD, List.getElem?_eq_getElem (by omega)]; rfl
      show sm l t + ct l t = _
      rw [ih (by omega), e]
      simp [ct]
  intro l
  have := key l l.length (Nat.le_refl _)
  rwa [List.take_length] at this
theorem sm_cnt (L : List Int) : sm (rns L 0 0) (rns L 0 0).length = cnt L := by
  rw [sm_all, rns_sum]; omega
theorem sm_le (l : List (Nat × Nat)) : ∀ (q t : Nat), t ≤ q → sm l t ≤ sm l q
  | 0, t, h => by have : t = 0 := by omega
                  subst this; exact Nat.le_refl _
  | q + 1, t, h => by
    rcases Nat.lt_or_ge t (q + 1) with h1 | h1
    · have := sm_le l q t (by omega)
      show _ ≤ sm l q + ct l q
      omega
    · have : t = q + 1 := by omega
      subst this; exact Nat.le_refl _
theorem cnt_le (L : List Int) : cnt L ≤ L.length := List.countP_le_length
theorem cnt_take (L : List Int) (t : Nat) (h : t < L.length) : cnt (L.take (t + 1)) = cnt (L.take t) + if L.getD t 1073741824 = 1073741824 then 0 else 1 := by
  have e : L.take (t + 1) = L.take t ++ [L.getD t 1073741824] := by
    rw [List.take_succ_eq_append_getElem h, List.getD_eq_getElem?_getD, List.getElem?_eq_getElem h]; rfl
  rw [e, cnt_app]
  generalize L.getD t 1073741824 = x
  congr 1
  unfold cnt
  split
  · rename_i hh; simp [hh]
  · rename_i hh; simp [hh]
theorem runs_len (L : List Int) : (rns L 0 0).length ≤ L.length := by
  have h : ∀ (l : List (Nat × Nat)), (∀ t, t < l.length → 1 ≤ ct l t) → l.length ≤ sm l l.length := by
    intro l hl
    have : ∀ t, t ≤ l.length → t ≤ sm l t := by
      intro t
      induction t with
      | zero => intro _; exact Nat.zero_le _
      | succ t ih => intro ht; have := ih (by omega); have := hl t (by omega); show _ ≤ sm l t + ct l t; omega
    exact this _ (Nat.le_refl _)
  have h1 := h (rns L 0 0) (fun t ht => (asc_at _ (-1) t (asc_all L) ht).2.2.1)
  rw [sm_cnt] at h1
  exact Nat.le_trans h1 (cnt_le L)
theorem getD_two {L : List Int} {i : Nat} (h : i < L.length) : L.getD i 1073741824 = L.getD i 0 := by
  simp [List.getD_eq_getElem?_getD, List.getElem?_eq_getElem h]
end Go.Proofs.Ytaplbkfmedofcaa.Se
namespace Go.Proofs.Ytaplbkfmedofcaa.Se
open Go.ChangeShapes Go.WideShapes Go.RowKit Wo Sr Wi
set_option linter.unusedVariables false
theorem rsample_ok (n : Int) (h0 : -1000 ≤ n) (h1 : n ≤ 1000) (w : World) : Calls Try.prog 55 #[.int .i64 n] w fun e w' => e = .returned (.bool true) ∧ w = w' := by
  go_enter Try.func55, Try.ntmps55
  go_wp2
  go_ret
  exact ⟨rfl, rfl⟩
set_option maxHeartbeats 4000000 in
theorem rvalid_ok (st sp : Int) (A : Option Addr) (n c : Nat) (L : List Int) (h : Sb st sp n) (hs : Sv L) (w : World) (hz : Zi w A n L) :
    Calls Try.prog 39 #[.agg #[.int .i64 st, .int .i64 sp, .slice A n c]] w fun e w' => e = .returned (.bool true) ∧ Bel w w' := by
  have HZ := Lib.hid hz
  have HS := Lib.hid hs
  obtain ⟨a1, a2, a3, a4, a5⟩ := h
  obtain ⟨p0, p1⟩ := sb_mul a3 a4 (show n ≤ 3000 by omega)
  obtain ⟨p, hp⟩ : ∃ p, sp * (n : Int) = p := ⟨_, rfl⟩
  rw [hp] at p0 p1
  have wp1 : IntKind.i64.wrap p = p := IntWalk.i64_in _ (by omega)
  have wp2 : IntKind.i64.wrap (st + p) = st + p := IntWalk.i64_in _ (by omega)
  have pb : st + p ≤ 2199023255552 := by omega
  have ni : (n : Int) ≤ 2000 := by omega
  have b1 : st ≤ 1099511627776 := by omega
  have b2 : sp ≤ 1099511627776 := by omega
  have HK := Lib.hid (Bk.nw w 43 #[.int .i64 st, .int .i64 sp, .slice A n c])
  clear hs hz
  go_enter Try.func39, Try.ntmps39
  go_wp2
  go_loopw [43] (fun s43 wr => ∃ (k : Nat) (V : World), V = wr ∧ k ≤ n ∧ s43 = .int .i64 (k : Int) ∧ Bel (w.alloc (.cells #[.int .i64 st, .int .i64 sp, .slice A n c] 43)) wr) (fun s43 _ => n - (intOf s43).toNat)
  case atStart => exact ⟨0, _, rfl, by omega, rfl, by first | exact Bel.rf | exact Bel.rf.drw | exact Bel.rf.drwN _⟩
  case round =>
    clear hp p0 p1 wp1 wp2 pb
    obtain ⟨k, wr, hwr, hk, rfl, hb⟩ := hrel
    subst hwr
    have HB := Lib.hid hb
    rcases Nat.lt_or_ge k n with hlt | hge
    · obtain ⟨ad, rfl, hab, hac⟩ := (HZ.out.bel ((Bel.rf.al _).tr hb)).2 (by omega)
      have c1 := hac k hlt
      have B1 := HK.out.bel hb
      have d0 : wr.cell? ⟨w.heap.size, 2, none⟩ = some (.slice (some ad) n c) := B1.cell 2
      have hv := HS.out.at (i := k) (by rw [HZ.out.1]; exact hlt)
      obtain ⟨x, hx⟩ : ∃ x, L.getD k 0 = x := ⟨_, rfl⟩
      rw [hx] at c1 hv
      have ki : (k : Int) < (n : Int) := by omega
      clear hb hac hab hx B1
      rcases hv with ⟨v0, v1⟩ | rfl
      · have hne : (x = 1073741824) = False := by simp; omega
        have hnb : (x != 1073741824) = true := by simp; omega
        go_wp2_with fail
        go_at_call 55
        refine (rsample_ok x v0 v1 _).mono ?_
        rintro e w4 ⟨rfl, rfl⟩
        go_wp2
        go_roundw
        case rel => exact ⟨k + 1, _, rfl, by omega, by go_num, by first | exact HB.out | exact HB.out.drwN _⟩
        case measure => simp [intOf]; omega
      · go_wp2
        go_roundw
        case rel => exact ⟨k + 1, _, rfl, by omega, by go_num, by first | exact HB.out | exact HB.out.drwN _⟩
        case measure => simp [intOf]; omega
    · obtain rfl : k = n := by omega
      clear hb
      go_wp2
      go_ret
      exact ⟨rfl, (Bel.rf.al _).tr HB.out⟩
end Go.Proofs.Ytaplbkfmedofcaa.Se
namespace Go.Proofs.Ytaplbkfmedofcaa.Se
open Go.ChangeShapes Go.WideShapes Go.RowKit Wo Sr Wi
set_option linter.unusedVariables false
def fl (i c : Nat) : List (Nat × Nat) := if 0 < c then [(i - c, c)] else []
def rn0 : List Int → Nat → Nat → List (Nat × Nat)
  | [], _, _ => []
  | v :: vs, i, c => if v = 1073741824 then fl i c ++ rn0 vs (i + 1) 0 else rn0 vs (i + 1) (c + 1)
def tc : List Int → Nat → Nat
  | [], c => c
  | v :: vs, c => if v = 1073741824 then tc vs 0 else tc vs (c + 1)
theorem rns_split : ∀ (vs : List Int) (i c : Nat), rns vs i c = rn0 vs i c ++ fl (i + vs.length) (tc vs c)
  | [], i, c => by by_cases h : 0 < c <;> simp [rns, rn0, fl, tc, h]
  | v :: vs, i, c => by
    have e : i + (v :: vs).length = i + 1 + vs.length := by simp; omega
    rw [e]
    unfold rns rn0 tc
    by_cases h : v = 1073741824
    · simp only [if_pos h]
      rw [rns_split vs (i + 1) 0]
      by_cases h2 : 0 < c
      · simp [fl, h2]
      · simp [fl, h2]
    · simp only [if_neg h]
      rw [rns_split vs (i + 1) (c + 1)]
theorem rn0_snoc (x : Int) : ∀ (vs : List Int) (i c : Nat), rn0 (vs ++ [x]) i c = if x = 1073741824 then rn0 vs i c ++ fl (i + vs.length) (tc vs c) else rn0 vs i c
  | [], i, c => by
    show rn0 [x] i c = _
    unfold rn0
    by_cases h : x = 1073741824 <;> simp [h, rn0, tc]
  | v :: vs, i, c => by
    have e : i + (v :: vs).length = i + 1 + vs.length := by simp; omega
    rw [e, List.cons_append]
    unfold rn0 tc
    by_cases h : v = 1073741824
    · simp only [if_pos h]
      rw [rn0_snoc x vs (i + 1) 0]
      by_cases h2 : x = 1073741824 <;> simp [h2]
    · simp only [if_neg h]
      rw [rn0_snoc x vs (i + 1) (c + 1)]
theorem tc_snoc (x : Int) : ∀ (vs : List Int) (c : Nat), tc (vs ++ [x]) c = if x = 1073741824 then 0 else tc vs c + 1
  | [], c => by
    show tc [x] c = _
    unfold tc
    by_cases h : x = 1073741824 <;> simp [h, tc]
  | v :: vs, c => by
    rw [List.cons_append]
    unfold tc
    by_cases h : v = 1073741824
    · simp only [if_pos h]; exact tc_snoc x vs 0
    · simp only [if_neg h]; exact tc_snoc x vs (c + 1)
theorem tc_le : ∀ (vs : List Int) (c : Nat), tc vs c ≤ c + vs.length
  | [], c => by simp [tc]
  | v :: vs, c => by
    unfold tc
    have h1 := tc_le vs 0
    have h2 := tc_le vs (c + 1)
    split <;> simp <;> omega
/-- the runs of the first k values -/
def Rk (L : List Int) (k : Nat) : List (Nat × Nat) := rns (L.take k) 0 0
theorem tk_next (L : List Int) (k : Nat) (h : k < L.length) : L.take (k + 1) = L.take k ++ [L.getD k 0] := by
  rw [List.take_add_one, List.getD_eq_getElem?_getD, List.getElem?_eq_getElem h]; rfl
theorem Rk_none {L : List Int} {k : Nat} (h : k < L.length) (hx : L.getD k 0 = 1073741824) : Rk L (k + 1) = Rk L k := by
  unfold Rk
  rw [tk_next L k h, rns_split, rn0_snoc, tc_snoc, if_pos hx, if_pos hx, rns_split (L.take k)]
  simp [fl]
theorem Rk_some {L : List Int} {k : Nat} (h : k < L.length) (hx : L.getD k 0 ≠ 1073741824) : Rk L (k + 1) = rn0 (L.take k) 0 0 ++ [(k - tc (L.take k) 0, tc (L.take k) 0 + 1)] := by
  have hl : (L.take k).length = k := by simp; omega
  unfold Rk
  rw [tk_next L k h, rns_split, rn0_snoc, tc_snoc, if_neg hx, if_neg hx]
  simp only [fl, List.length_append, hl, List.length_cons, List.length_nil]
  rw [if_pos (by omega)]
  rw [show 0 + (k + (0 + 1)) - (tc (L.take k) 0 + 1) = k - tc (L.take k) 0 by omega]
theorem tc_at {L : List Int} {j : Nat} (h : j < L.length) : tc (L.take (j + 1)) 0 = if L.getD j 0 = 1073741824 then 0 else tc (L.take j) 0 + 1 := by
  rw [tk_next L j h, tc_snoc]
theorem Rk_new {L : List Int} {k : Nat} (h : k < L.length) (hx : L.getD k 0 ≠ 1073741824) (h0 : k = 0 ∨ ∃ j, j + 1 = k ∧ L.getD j 0 = 1073741824) : Rk L (k + 1) = Rk L k ++ [(k, 1)] := by
  have ht : tc (L.take k) 0 = 0 := by
    rcases h0 with rfl | ⟨j, rfl, hj⟩
    · rfl
    · rw [tc_at (by omega), if_pos hj]
  rw [Rk_some h hx, ht]
  have : Rk L k = rn0 (L.take k) 0 0 := by
    unfold Rk
    rw [rns_split, ht]
    simp [fl]
  rw [this]
  rfl
theorem Rk_more {L : List Int} {k j : Nat} (h : k < L.length) (hx : L.getD k 0 ≠ 1073741824) (hj : j + 1 = k) (hy : L.getD j 0 ≠ 1073741824) : ∃ (P : List (Nat × Nat)) (f c : Nat), Rk L k = P ++ [(f, c)] ∧ Rk L (k + 1) = P ++ [(f, c + 1)] ∧ c ≤ k := by
  have hl : (L.take k).length = k := by simp; omega
  have ht : 0 < tc (L.take k) 0 := by
    subst hj
    rw [tc_at (by omega), if_neg hy]; omega
  have hle := tc_le (L.take k) 0
  refine ⟨rn0 (L.take k) 0 0, k - tc (L.take k) 0, tc (L.take k) 0, ?_, Rk_some h hx, by omega⟩
  unfold Rk
  rw [rns_split, hl]
  unfold fl
  rw [if_pos ht, show 0 + k = k by omega]
theorem rr_len (l : List (Nat × Nat)) : (rr l).length = l.length * 2 := by
  induction l with
  | nil => rfl
  | cons p l ih => rw [rr_cons, List.length_cons, List.length_cons, ih, List.length_cons]; omega
theorem Rk_len (L : List Int) (k : Nat) : (Rk L k).length ≤ k := by
  have := runs_len (L.take k)
  have h2 : (L.take k).length ≤ k := by simp; omega
  unfold Rk; omega
/-- the last pair's second half set -/
theorem own_last {w : World} {base h n c p f q : Nat} {P : List (Nat × Nat)} {e : TypeId} (hown : w.ownsRow base e 2 (.slice (some ⟨h, 0, none⟩) n c) n (rr (P ++ [(f, q)]))) (hp : P.length = p) (hn : n = p + 1) (q' : Nat) : (w.setCell ⟨h, p * 2 + 1, none⟩ (.int .i64 (q' : Int))).ownsRow base e 2 (.slice (some ⟨h, 0, none⟩) n c) n (rr (P ++ [(f, q')])) := by
  refine ⟨by have := hown.1; simp only [rr_len, List.length_append] at *; exact this, ?_⟩
  rcases hown.2 with ⟨h0, _⟩ | ⟨g, cap, cur, e1, hb, hg, h1, h2, h3, h4⟩
  · cases h0
  · injection e1 with e1 e2 e3
    injection e1 with e1
    cases e1
    subst e3
    refine .inr ⟨h, c, _, rfl, hb, Bk.st (t := e) hg (p * 2 + 1) _, h1, h2, by simpa using h3, ?_⟩
    rw [Array.toList_setIfInBounds, List.take_set, h4]
    have e5 : rr (P ++ [(f, q)]) = rr P ++ [.int .i64 (f : Int), .int .i64 (q : Int)] := by rw [rr_app]; rfl
    have e6 : rr (P ++ [(f, q')]) = rr P ++ [.int .i64 (f : Int), .int .i64 (q' : Int)] := by rw [rr_app]; rfl
    rw [e5, e6, List.set_append_right _ _ (by rw [rr_len]; omega), rr_len, hp, show p * 2 + 1 - p * 2 = 1 by omega]
    rfl
theorem own_fz {w : World} {base h n c size : Nat} {xs : List Value} {e : TypeId} (hown : w.ownsRow base e size (.slice (some ⟨h, 0, none⟩) n c) n xs) (t : Nat) : w.frozen? ⟨h, t, none⟩ = false := by
  rcases hown.2 with ⟨h0, _⟩ | ⟨g, cap, cur, e1, hb, hg, _⟩
  · cases h0
  · injection e1 with e1 e2 e3
    injection e1 with e1
    cases e1
    exact Bk.fr (t := e) hg t
theorem own_form {w : World} {base n : Nat} {v : Value} {xs : List Value} {e : TypeId} {size : Nat} (h : w.ownsRow base e size v n xs) (hn : 0 < n) : ∃ g c, v = .slice (some ⟨g, 0, none⟩) n c ∧ n ≤ c ∧ base ≤ g := by
  rcases h.2 with ⟨_, h0⟩ | ⟨g, cap, cur, hv, hb, hg, h1, _⟩
  · omega
  · exact ⟨g, cap, hv, h1, hb⟩
theorem list_aprn (w : World) {ops : Array Oper} {rest : List Oper} {o : Oper} {a : Act} {Q : Exit → Act → World → Prop} (hgd : o.guard = none) (s x : Operand)
    (ho : o.op = .call { callee := .builtin .append, args := #[s, x], argTypes := #[57, 57] })
    (base : Nat) (v : Value) (n : Nat) (l : List (Nat × Nat)) (hs : a.eval s = v) (hown : w.ownsRow base 60 2 v n (rr l)) (g c : Nat) (p : Nat × Nat) (hx : a.eval x = .slice (some ⟨g, 0, none⟩) 1 c)
    (hM : Bk w g 60 #[.int .i64 (p.1 : Int), .int .i64 (p.2 : Int)]) (hn : n ≤ 100000) (hbase : base ≤ w.heap.size)
    (h : ∀ v' w', w'.ownsRow base 60 2 v' (n + 1) (rr (l ++ [p])) → w.grownBy w' v.ownBlock → (v'.ownBlock = v.ownBlock ∨ v'.ownBlock = some w.heap.size) → wpList Try.prog ops Q rest (a.put o.dst v') w') : wpList Try.prog ops Q (o :: rest) a w :=
  wpList_plain hgd fun _ hK => by
    obtain ⟨i0, hi0, hz0, hz1, hz2⟩ := info_parts info_run
    obtain ⟨v', w', hr, h2, h3, _, h5⟩ := run_append_own_at (P := Try.prog) w base 57 o.type 60 i0 (.agg #[.int .i64 0, .int .i64 0]) 2 16 Try.underlying57 hi0 hz0 hz1 hz2 (by rfl) (by omega) v n (rr l) hown ⟨g, 0, none⟩ 1 c (rr [p]) (by rfl) (by
      intro j u hu
      rw [add_row, Bk.cell (t := 60) hM j]
      have e : rr [p] = [.int .i64 (p.1 : Int), .int .i64 (p.2 : Int)] := rfl
      rw [e] at hu
      simpa using hu) (by intro u hu; simp [rr] at hu; rcases hu with rfl | rfl <;> rfl) (by unfold maxLen; omega) (by omega) hbase
    unfold Oper.wp execOp
    simp only [ho, resolve, invoke, builtin, Sem.run_bind, Sem.run_pure, Result.andThen_ok, List.map_toArray, List.map_cons, List.map_nil, hs, hx, hr]
    exact hK _ _ (h v' w' (by rw [rr_app]; exact h2) h3 h5)
end Go.Proofs.Ytaplbkfmedofcaa.Se
namespace Go.Proofs.Ytaplbkfmedofcaa.Se
open Go.ChangeShapes Go.WideShapes Go.RowKit Wo Sr Wi
set_option linter.unusedVariables false
set_option maxHeartbeats 8000000 in
set_option maxRecDepth 100000 in
theorem rruns_ok (st sp : Int) (A : Option Addr) (n c : Nat) (L : List Int) (h : Sb st sp n) (hs : Sv L) (w : World) (hz : Zi w A n L) :
    Calls Try.prog 24 #[.agg #[.int .i64 st, .int .i64 sp, .slice A n c]] w (SomeRuns L w) := by
  have VA : Hid (∀ W, Zi W A n L → _) := fun W hW => rvalid_ok st sp A n c L h hs W hW
  have HZ := Lib.hid hz
  have ni : (n : Int) ≤ 2000 := by have := h.2.2.2.2; omega
  have HK := Lib.hid (Bk.nw w 43 #[.int .i64 st, .int .i64 sp, .slice A n c])
  have HRK := Lib.hid (Rk_len L)
  clear hs hz h
  go_enter Try.func24, Try.ntmps24
  go_wp2_with fail
  go_at_call 39
  refine (VA.out _ (HZ.out.bel (Bel.rf.al _))).mono ?_
  rintro e w2 ⟨rfl, hb2⟩
  have HK2 := Lib.hid (HK.out.bel hb2)
  have d2 : w2.cell? ⟨w.heap.size, 2, none⟩ = some (.slice A n c) := HK2.out.cell 2
  have HB2 : Hid (Bel w w2) := (Bel.rf.al _).tr hb2
  have hlw : w.heap.size < w2.heap.size := HK2.out.lt
  clear hb2
  go_wp2
  go_loopw [3, 11] (fun s3 s11 wr => ∃ (k N : Nat) (u : Value) (V : World), V = wr ∧ u = s3 ∧ k ≤ n ∧ s11 = .int .i64 (k : Int) ∧ (Rk L k).length = N ∧ wr.ownsRow w2.heap.size 60 2 u N (rr (Rk L k)) ∧ Bel w2 wr) (fun s3 s11 _ => n - (intOf s11).toNat)
  case atStart => exact ⟨0, 0, _, _, rfl, rfl, by omega, rfl, rfl, World.ownsRow_nil _ _ _ _, by first | exact Bel.rf | exact Bel.rf.drw | exact Bel.rf.drwN _⟩
  case round =>
    clear d2
    obtain ⟨k, N, u, wr, hwr, hu, hk, rfl, hN, hown, hb⟩ := hrel
    subst hwr
    subst hu
    rcases Nat.lt_or_ge k n with hlt | hge
    · obtain ⟨ad, rfl, hab, hac⟩ := (HZ.out.bel (HB2.out.tr hb)).2 (by omega)
      have c1 := hac k hlt
      have d2 : wr.cell? ⟨w.heap.size, 2, none⟩ = some (.slice (some ad) n c) := (HK2.out.bel hb).cell 2
      have hkl : k < L.length := by rw [HZ.out.1]; exact hlt
      have HKL := Lib.hid hkl
      have HO := Lib.hid hown
      have HB := Lib.hid hb
      have HN := Lib.hid hN
      have hNk : N ≤ k := by rw [← hN]; exact HRK.out k
      have ki : (k : Int) < (n : Int) := by omega
      obtain ⟨x, hx⟩ : ∃ x, L.getD k 0 = x := ⟨_, rfl⟩
      rw [hx] at c1
      have HX := Lib.hid hx
      by_cases hm : x = 1073741824
      · subst hm
        have HE := Lib.hid (Rk_none hkl hx)
        clear hb hac hab hx hown hN hkl
        go_wp2
        go_roundw
        case rel => exact ⟨k + 1, N, _, _, rfl, rfl, by omega, by go_num, by rw [HE.out]; exact HN.out, by rw [HE.out]; first | exact HO.out | exact own_bel HO.out (Bel.rf.drwN _), by first | exact HB.out | exact HB.out.drwN _⟩
        case measure => simp [intOf]; omega
      · have hxb : (x == 1073741824) = false := by simpa using hm
        have hxm : (x = 1073741824) = False := by simpa using hm
        rcases (show k = 0 ∨ ∃ j, j + 1 = k by cases k; exact .inl rfl; exact .inr ⟨_, rfl⟩) with h0 | ⟨j, hj⟩
        · have HE := Lib.hid (Rk_new hkl (by rw [hx]; exact hm) (.inl h0))
          have k0 : ((0 : Int) < (k : Int)) = False := by simp; omega
          have k0n : (0 < k) = False := by simp; omega
          have HM := Lib.hid hm
          have HZ0 := Lib.hid h0
          clear hb hac hab hx hown hN hkl hm h0
          go_wp2_with (at_builtin; refine list_aprn _ rfl (.tmp 14) (.tmp 17) rfl w2.heap.size _ _ _ rfl (own_bel HO.out (Bel.rf.al _)) wr.heap.size 1 (k, 1) rfl (Bk.nw _ _ _) (by omega) (by have := HB.out.size; simp; omega) ?_; intro v' w9 h9 hg9 hat9; have H9 := Lib.hid (And.intro h9 (And.intro hg9 hat9)); clear h9 hg9 hat9)
          go_roundw
          case rel => exact ⟨k + 1, N + 1, _, _, rfl, rfl, by omega, by go_num, by rw [HE.out]; simp [HN.out], by rw [HE.out]; exact H9.out.1, bel_grown (HB.out.al _) H9.out.2.1 (own_base HO.out)⟩
          case measure => simp [intOf]; omega
        · have e1 : wrap64 ((k : Int) - 1) = (j : Int) := by rw [IntWalk.wrap64_in _ (by omega)]; omega
          have e2 : IntKind.i64.wrap ((k : Int) - 1) = (j : Int) := by rw [IntWalk.i64_in _ (by omega)]; omega
          have k0 : (0 : Int) < (k : Int) := by omega
          have k0n : 0 < k := by omega
          have ji : (j : Int) < (n : Int) := by omega
          have jn : j < n := by omega
          have c0 := hac j jn
          obtain ⟨y, hy⟩ : ∃ y, L.getD j 0 = y := ⟨_, rfl⟩
          rw [hy] at c0
          have HJ := Lib.hid hj
          by_cases hn : y = 1073741824
          · subst hn
            have HE := Lib.hid (Rk_new hkl (by rw [hx]; exact hm) (.inr ⟨j, hj, hy⟩))
            have HM := Lib.hid hm
            clear hb hac hab hx hown hN hkl hm hy hj
            go_wp2_with (at_builtin; refine list_aprn _ rfl (.tmp 14) (.tmp 17) rfl w2.heap.size _ _ _ rfl (own_bel HO.out (Bel.rf.al _)) wr.heap.size 1 (k, 1) rfl (Bk.nw _ _ _) (by omega) (by have := HB.out.size; simp; omega) ?_; intro v' w9 h9 hg9 hat9; have H9 := Lib.hid (And.intro h9 (And.intro hg9 hat9)); clear h9 hg9 hat9)
            go_roundw
            case rel => exact ⟨k + 1, N + 1, _, _, rfl, rfl, by omega, by go_num, by rw [HE.out]; simp [HN.out], by rw [HE.out]; exact H9.out.1, bel_grown (HB.out.al _) H9.out.2.1 (own_base HO.out)⟩
            case measure => simp [intOf]; omega
          · have hyb : (y != 1073741824) = true := by simpa using hn
            have hym : (y = 1073741824) = False := by simpa using hn
            obtain ⟨P, f, q, q1, q2, q3⟩ := Rk_more hkl (by rw [hx]; exact hm) hj (by rw [hy]; exact hn)
            have HM := Lib.hid (And.intro hm hn)
            obtain ⟨p, hp⟩ : ∃ p, P.length = p := ⟨_, rfl⟩
            have hNp : N = p + 1 := by rw [← hN, q1]; simp [hp]
            rw [q1] at hown
            obtain ⟨g, cp, rfl, hcp, hbg⟩ := own_form hown (by omega)
            have d3 : wr.cell? ⟨g, p * 2 + 1, none⟩ = some (.int .i64 (q : Int)) := by
              have e5 : rr (P ++ [(f, q)]) = rr P ++ [.int .i64 (f : Int), .int .i64 (q : Int)] := by rw [rr_app]; rfl
              have h2 := hown.cells (g := g) rfl (p * 2 + 1) (.int .i64 (q : Int)) (by rw [e5, List.getElem?_append_right (by rw [rr_len]; omega), rr_len, hp, show p * 2 + 1 - p * 2 = 1 by omega]; rfl)
              rw [add_row] at h2
              exact h2
            have d4 := own_fz hown (p * 2 + 1)
            have e3 : IntKind.i64.wrap ((N : Int) - 1) = (p : Int) := by rw [IntWalk.i64_in _ (by omega)]; omega
            have e4 : wrap64 ((N : Int) - 1) = (p : Int) := by rw [IntWalk.wrap64_in _ (by omega)]; omega
            have e7 : IntKind.i64.wrap ((q : Int) + 1) = ((q + 1 : Nat) : Int) := by rw [IntWalk.i64_in _ (by omega)]; omega
            have e8 : wrap64 ((q : Int) + 1) = ((q + 1 : Nat) : Int) := by rw [IntWalk.wrap64_in _ (by omega)]; omega
            have pi : (p : Int) < (N : Int) := by omega
            have pn : p < N := by omega
            have HO := Lib.hid (And.intro hown (And.intro hp (And.intro hNp (And.intro q1 (And.intro q2 hbg)))))
            clear hb hac hab hx hown hN hkl hm hn hy hj q1 q2 hp hNp hbg
            go_wp2
            go_roundw
            case rel =>
              refine ⟨k + 1, N, _, _, rfl, rfl, by omega, by go_num, by rw [HO.out.2.2.2.2.1]; simp [HO.out.2.1, HO.out.2.2.1], ?_, ?_⟩
              · rw [HO.out.2.2.2.2.1]
                exact own_last HO.out.1 HO.out.2.1 HO.out.2.2.1 (q + 1)
              · exact HB.out.st2 (by exact HO.out.2.2.2.2.2) _
            case measure => simp [intOf]; omega
    · obtain rfl : k = n := by omega
      have HO := Lib.hid hown
      have HB := Lib.hid hb
      have HN := Lib.hid hN
      clear hown hb hN
      go_wp2
      go_ret
      have e : Rk L k = rns L 0 0 := by unfold Rk; rw [List.take_of_length_le (by rw [HZ.out.1]; exact Nat.le_refl _)]
      have hlen := HN.out
      have ho := HO.out
      rw [e] at ho hlen
      obtain ⟨A', c', rfl, hz'⟩ := own_zq ho hlen
      exact ⟨A', N, c', rfl, hlen.symm, hz', HB2.out.tr HB.out⟩
end Go.Proofs.Ytaplbkfmedofcaa.Se
namespace Go.Proofs.Ytaplbkfmedofcaa.Se
open Go.ChangeShapes Go.WideShapes Go.RowKit Wo Sr Wi Sg By Cd
set_option linter.unusedVariables false
def ckt (p : Nat × Nat) (t : Nat) : List (Nat × Nat) := (List.range t).map fun t => (p.1 + 64 * t, min 64 (p.2 - 64 * t))
def ck (p : Nat × Nat) : List (Nat × Nat) := ckt p ((p.2 + 63) / 64)
theorem ckt_next (p : Nat × Nat) (t : Nat) : ckt p (t + 1) = ckt p t ++ [(p.1 + 64 * t, min 64 (p.2 - 64 * t))] := by simp [ckt, List.range_succ]
def pre (R : List (Nat × Nat)) (j : Nat) : List (Nat × Nat) := (R.take j).flatMap ck
theorem pre_next (R : List (Nat × Nat)) (j : Nat) (h : j < R.length) : pre R (j + 1) = pre R j ++ ck (fr R j, ct R j) := by
  unfold pre fr ct
  rw [List.take_add_one, List.flatMap_append, List.getD_eq_getElem?_getD, List.getElem?_eq_getElem h]
  simp
def cks (L : List Int) : List (Nat × Nat) := (rns L 0 0).flatMap ck
theorem pre_all (R : List (Nat × Nat)) : pre R R.length = R.flatMap ck := by unfold pre; rw [List.take_length]
def sgl (l : List (Nat × Value)) : List Value := l.flatMap fun p => [.int .i64 (p.1 : Int), p.2]
theorem sgl_cons (p : Nat × Value) (l : List (Nat × Value)) : sgl (p :: l) = .int .i64 (p.1 : Int) :: p.2 :: sgl l := rfl
theorem sgl_app (a b : List (Nat × Value)) : sgl (a ++ b) = sgl a ++ sgl b := by simp [sgl]
theorem sgl_at (l : List (Nat × Value)) (i : Nat) (h : i < l.length) : (sgl l)[i * 2]? = some (.int .i64 ((l.getD i (0, undef)).1 : Int)) ∧ (sgl l)[i * 2 + 1]? = some (l.getD i (0, undef)).2 := by
  induction l generalizing i with
  | nil => simp at h
  | cons p l ih =>
    rcases i with _ | i
    · exact ⟨rfl, rfl⟩
    · have := ih i (by simpa using h)
      rw [sgl_cons, show (i + 1) * 2 = i * 2 + 1 + 1 by omega]
      simpa using this
/-- a stored segment -/
def Sok (w : World) (L : List Int) (p : Nat × Nat) (u : Nat × Value) : Prop := u.1 = p.1 ∧ ∃ N, (seg ((L.drop p.1).take p.2)).length = N ∧ w.ownsRow 0 5 1 u.2 N (bys (seg ((L.drop p.1).take p.2)))
def Srl (w : World) (L : List Int) (cs : List (Nat × Nat)) (us : List (Nat × Value)) : Prop := us.length = cs.length ∧ ∀ j, j < cs.length → Sok w L (cs.getD j (0, 0)) (us.getD j (0, undef))
theorem Sok.bel {w w' : World} {L : List Int} {p : Nat × Nat} {u : Nat × Value} (h : Sok w L p u) (hb : Bel w w') : Sok w' L p u := by
  obtain ⟨h1, N, h2, h3⟩ := h
  exact ⟨h1, N, h2, own_bel h3 hb⟩
theorem Srl.bel {w w' : World} {L : List Int} {cs : List (Nat × Nat)} {us : List (Nat × Value)} (h : Srl w L cs us) (hb : Bel w w') : Srl w' L cs us := ⟨h.1, fun j hj => (h.2 j hj).bel hb⟩
theorem own_two {w : World} {b1 b2 n1 n2 s1 s2 : Nat} {e1 e2 : TypeId} {v1 v2 : Value} {xs ys : List Value} (h1 : w.ownsRow b1 e1 s1 v1 n1 xs) (h2 : w.ownsRow b2 e2 s2 v2 n2 ys) (hne : e1 ≠ e2) : v1.ownBlock = none ∨ v2.ownBlock ≠ v1.ownBlock := by
  rcases h1.2 with ⟨rfl, _⟩ | ⟨g1, c1, u1, rfl, _, k1, _⟩
  · exact .inl rfl
  · right
    rcases h2.2 with ⟨rfl, _⟩ | ⟨g2, c2, u2, rfl, _, k2, _⟩
    · intro e; cases e
    · intro e
      injection e with e
      subst e
      rw [k1] at k2
      injection k2 with k2
      injection k2 with _ k2
      exact hne k2
theorem Srl.kept {w w' : World} {L : List Int} {cs : List (Nat × Nat)} {us : List (Nat × Value)} {b n : Nat} {v : Value} {xs : List Value} (h : Srl w L cs us) (ho : w.ownsRow b 52 2 v n xs) (hg : w.grownBy w' v.ownBlock) : Srl w' L cs us := ⟨h.1, fun j hj => by
  obtain ⟨h1, N, h2, h3⟩ := h.2 j hj
  exact ⟨h1, N, h2, h3.kept hg ((own_two h3 ho (by decide)).imp id Ne.symm)⟩⟩
theorem Srl.snoc {w : World} {L : List Int} {cs : List (Nat × Nat)} {us : List (Nat × Value)} (h : Srl w L cs us) {p : Nat × Nat} {u : Nat × Value} (hu : Sok w L p u) : Srl w L (cs ++ [p]) (us ++ [u]) := ⟨by simp [h.1], fun j hj => by
  have hl := h.1
  rcases Nat.lt_or_ge j cs.length with hlt | hge
  · rw [List.getD_eq_getElem?_getD, List.getD_eq_getElem?_getD, List.getElem?_append_left hlt, List.getElem?_append_left (by omega)]
    have := h.2 j hlt
    rwa [List.getD_eq_getElem?_getD, List.getD_eq_getElem?_getD] at this
  · have : j = cs.length := by simp at hj; omega
    subst this
    rw [List.getD_eq_getElem?_getD, List.getD_eq_getElem?_getD, List.getElem?_append_right (by omega), List.getElem?_append_right (by omega), hl]
    simpa using hu⟩
theorem info_sg : (Try.prog.info? 52).map (fun i => (i.zero, i.size, i.bytes)) = some (some (.agg #[.int .i64 0, .slice none 0 0]), 2, 32) := by kernel_rfl
theorem sgl_len (l : List (Nat × Value)) : (sgl l).length = l.length * 2 := by
  induction l with
  | nil => rfl
  | cons p l ih => rw [sgl_cons, List.length_cons, List.length_cons, ih, List.length_cons]; omega
theorem list_apsg (w : World) {ops : Array Oper} {rest : List Oper} {o : Oper} {a : Act} {Q : Exit → Act → World → Prop} (hgd : o.guard = none) (s x : Operand)
    (ho : o.op = .call { callee := .builtin .append, args := #[s, x], argTypes := #[45, 45] })
    (base : Nat) (v : Value) (n : Nat) (l : List (Nat × Value)) (hs : a.eval s = v) (hown : w.ownsRow base 52 2 v n (sgl l)) (g c : Nat) (p : Nat × Value) (hp : p.2.oneCell' = true) (hx : a.eval x = .slice (some ⟨g, 0, none⟩) 1 c)
    (hM : Bk w g 52 #[.int .i64 (p.1 : Int), p.2]) (hn : n ≤ 100000) (hbase : base ≤ w.heap.size)
    (h : ∀ v' w', w'.ownsRow base 52 2 v' (n + 1) (sgl (l ++ [p])) → w.grownBy w' v.ownBlock → (v'.ownBlock = v.ownBlock ∨ v'.ownBlock = some w.heap.size) → wpList Try.prog ops Q rest (a.put o.dst v') w') : wpList Try.prog ops Q (o :: rest) a w :=
  wpList_plain hgd fun _ hK => by
    obtain ⟨i0, hi0, hz0, hz1, hz2⟩ := info_parts info_sg
    obtain ⟨v', w', hr, h2, h3, _, h5⟩ := run_append_own_at (P := Try.prog) w base 45 o.type 52 i0 (.agg #[.int .i64 0, .slice none 0 0]) 2 32 Try.underlying45 hi0 hz0 hz1 hz2 (by rfl) (by omega) v n (sgl l) hown ⟨g, 0, none⟩ 1 c (sgl [p]) (by rfl) (by
      intro j u hu
      rw [By.add_row, Bk.cell (t := 52) hM j]
      have e : sgl [p] = [.int .i64 (p.1 : Int), p.2] := rfl
      rw [e] at hu
      simpa using hu) (by intro u hu; simp [sgl] at hu; rcases hu with rfl | rfl; rfl; exact hp) (by unfold maxLen; omega) (by omega) hbase
    unfold Oper.wp execOp
    simp only [ho, resolve, invoke, builtin, Sem.run_bind, Sem.run_pure, Result.andThen_ok, List.map_toArray, List.map_cons, List.map_nil, hs, hx, hr]
    exact hK _ _ (h v' w' (by rw [sgl_app]; exact h2) h3 h5)
def Zsg (w : World) (A : Option Addr) (n : Nat) (us : List (Nat × Value)) : Prop := us.length = n ∧ (0 < n → ∃ g : Nat, A = some ⟨g, 0, none⟩ ∧ g < w.heap.size ∧ ∀ j, j < n → w.cell? ⟨g, j * 2, none⟩ = some (.int .i64 ((us.getD j (0, undef)).1 : Int)) ∧ w.cell? ⟨g, j * 2 + 1, none⟩ = some (us.getD j (0, undef)).2)
theorem Zsg.bel {w w' : World} {A : Option Addr} {n : Nat} {l : List (Nat × Value)} (h : Zsg w A n l) (hb : Bel w w') : Zsg w' A n l :=
  ⟨h.1, fun hn => by
    obtain ⟨ad, e, hx, hc⟩ := h.2 hn
    exact ⟨ad, e, by have := hb.size; omega, fun j hj => ⟨hb.kp (hc j hj).1, hb.kp (hc j hj).2⟩⟩⟩
theorem own_zsg {w : World} {base k : Nat} {v : Value} {l : List (Nat × Value)} (hr : w.ownsRow base 52 2 v k (sgl l)) (hk : l.length = k) : ∃ A c, v = .slice A k c ∧ Zsg w A k l := by
  rcases hr.2 with ⟨rfl, rfl⟩ | ⟨g, cap, cur, rfl, hb, hg, rest⟩
  · exact ⟨none, 0, rfl, hk, fun h => by omega⟩
  · refine ⟨_, cap, rfl, hk, fun hn => ⟨_, rfl, (hr.lt g rfl).2, fun j hj => ?_⟩⟩
    have e := sgl_at l j (by omega)
    have h1 := hr.cells (g := g) rfl _ _ e.1
    have h2 := hr.cells (g := g) rfl _ _ e.2
    rw [By.add_row] at h1 h2
    exact ⟨h1, h2⟩
theorem asc_ck {W : List Int} : ∀ (l : List (Nat × Nat)) (e : Int), Asc W e l → W.length ≤ 64 → l.flatMap ck = l
  | [], e, _, _ => rfl
  | r :: rs, e, h, hw => by
    rw [List.flatMap_cons, asc_ck rs _ h.2.2.2.2 hw]
    have h1 := h.2.1
    have h2 := h.2.2.1
    have e1 : (r.2 + 63) / 64 = 1 := by omega
    unfold ck
    rw [e1]
    have e2 : min 64 (r.2 - 64 * 0) = r.2 := by omega
    have e3 : ckt r 1 = [(r.1 + 64 * 0, min 64 (r.2 - 64 * 0))] := rfl
    rw [e3, e2]
    rfl
theorem cks_short {L : List Int} (h : L.length ≤ 64) : cks L = rns L 0 0 := asc_ck _ _ (asc_all L) h
theorem cut_facts {f k n c E : Nat} (hE : f + k = E) (h1 : 1 ≤ k) (h : f + k ≤ n) (hn : n ≤ 2000) (hc : n ≤ c) : IntKind.i64.wrap ((f : Int) + (k : Int)) = (E : Int) ∧ wrap64 ((f : Int) + (k : Int)) = (E : Int) ∧ (f : Int) ≤ (E : Int) ∧ (E : Int) ≤ (c : Int) ∧ ((c = f) = False) ∧ E - f = k := by
  have e : (f : Int) + (k : Int) = (E : Int) := by omega
  rw [e]
  exact ⟨IntWalk.i64_in _ (by omega), IntWalk.wrap64_in _ (by omega), by omega, by omega, by simp; omega, by omega⟩
/-- the samples of a piece -/
theorem piece_vx {L : List Int} {n f c t : Nat} (hs : Sv L) (hl : L.length = n) (hc : f + c ≤ n) (hp : ∀ j, j < c → L.getD (f + j) 0 ≠ 1073741824) (ht : 64 * t < c) : Vx ((L.drop (f + 64 * t)).take (min 64 (c - 64 * t))) := by
  have hlen : ((L.drop (f + 64 * t)).take (min 64 (c - 64 * t))).length = min 64 (c - 64 * t) := by simp; omega
  refine ⟨by rw [hlen]; omega, by rw [hlen]; omega, fun x hx => ?_⟩
  obtain ⟨j, hj, e⟩ := List.mem_iff_getElem.1 hx
  rw [hlen] at hj
  have e2 : L.getD (f + (64 * t + j)) 0 = x := by
    rw [← e, List.getD_eq_getElem?_getD, List.getElem?_eq_getElem (by omega)]
    simp [Nat.add_assoc]
  have h1 := hs.at (i := f + (64 * t + j)) (by omega)
  have h2 := hp (64 * t + j) (by omega)
  rw [e2] at h1 h2
  rcases h1 with h1 | h1
  · exact h1
  · exact absurd h1 h2
end Go.Proofs.Ytaplbkfmedofcaa.Se
namespace Go.Proofs.Ytaplbkfmedofcaa.Se
open Go.ChangeShapes Go.WideShapes Go.RowKit Wo Sr Wi Sg
set_option linter.unusedVariables false
def SomeStore (L : List Int) (w : World) (e : Ending) (w' : World) : Prop := ∃ (u : Value) (N : Nat) (us : List (Nat × Value)), e = .returned (.tuple #[u, .int .i64 0]) ∧ N = (cks L).length ∧ us.length = N ∧ w'.ownsRow w.heap.size 52 2 u N (sgl us) ∧ Srl w' L (cks L) us ∧ Bel w w'
theorem own_base0 {w : World} {B n : Nat} {e : TypeId} {v : Value} {xs : List Value} (h : w.ownsRow B e 1 v n xs) : w.ownsRow 0 e 1 v n xs := Sg.own_base h (Nat.zero_le _)
theorem t_big {k n f E t j N : Nat} (hE : f + k = E) (h : E ≤ n) (hn : n ≤ 2000) (ht : t ≤ (k + 63) / 64) (hN : N ≤ 40 * j + t) (hj : j ≤ 2000) : N ≤ 100000 := by omega
theorem t_next {t k : Nat} (h : 64 * t < k) : t + 1 ≤ (k + 63) / 64 := by omega
theorem t_end {f t k E a : Nat} (hE : f + k = E) (ha : f + 64 * t = a) (hae : E ≤ a) (ht : t ≤ (k + 63) / 64) : t = (k + 63) / 64 := by omega
theorem t_small {k n f E t j N : Nat} (hE : f + k = E) (h : E ≤ n) (hn : n ≤ 2000) (ht : t ≤ (k + 63) / 64) (hN : N ≤ 40 * j + t) : N ≤ 40 * (j + 1) := by omega
theorem v_next {f t a : Nat} (ha : f + 64 * t = a) : Value.int .i64 ((a : Int) + 64) = .int .i64 ((f + 64 * (t + 1) : Nat) : Int) := by
  subst ha
  congr 1
set_option maxHeartbeats 8000000 in
set_option maxRecDepth 100000 in
theorem store_ok (st sp : Int) (A : Option Addr) (n c : Nat) (L : List Int) (h : Sb st sp n) (hs : Sv L) (w : World) (hz : Vs w A n c L) :
    Calls Try.prog 18 #[.agg #[.int .i64 st, .int .i64 sp, .slice A n c]] w (SomeStore L w) := by
  have VA : Hid (∀ W, Zi W A n L → _) := fun W hW => valid_ok st sp A n c L h hs W hW
  have RU : Hid (∀ W, Zi W A n L → _) := fun W hW => runs_c st sp A n c L h hs W hW
  have HZ := Lib.hid hz
  have HSV := Lib.hid hs
  have HL := Lib.hid hz.1.1
  have ni : (n : Int) ≤ 2000 := by have := h.2.2.2.2; omega
  have hnc := hz.2.1
  have HK := Lib.hid (Bk.nw w 43 #[.int .i64 st, .int .i64 sp, .slice A n c])
  clear hs hz h
  go_enter Try.func18, Try.ntmps18
  go_wp2_with fail
  go_at_call 36
  refine (VA.out _ (HZ.out.1.bel (Bel.rf.al _))).mono ?_
  rintro e w2 ⟨rfl, hb2⟩
  have HK2 := Lib.hid (HK.out.bel hb2)
  have d0 : w2.cell? ⟨w.heap.size, 0, none⟩ = some (.int .i64 st) := HK2.out.cell 0
  have d1 : w2.cell? ⟨w.heap.size, 1, none⟩ = some (.int .i64 sp) := HK2.out.cell 1
  have d2 : w2.cell? ⟨w.heap.size, 2, none⟩ = some (.slice A n c) := HK2.out.cell 2
  have HB2 : Hid (Bel w w2) := (Bel.rf.al _).tr hb2
  clear hb2
  go_wp2_with fail
  go_at_call 37
  refine (RU.out _ (HZ.out.1.bel HB2.out)).mono ?_
  rintro e w3 ⟨A3, m, c3, rfl, hm, hz3, hb3⟩
  have HB3 : Hid (Bel w w3) := HB2.out.tr hb3
  have HK3 : Hid (Bk w3 w.heap.size 43 #[.int .i64 st, .int .i64 sp, .slice A n c]) := HK2.out.bel hb3
  have HAS : Hid (∀ t, t < m → 1 ≤ ct (rns L 0 0) t ∧ fr (rns L 0 0) t + ct (rns L 0 0) t ≤ n ∧ ∀ j, j < ct (rns L 0 0) t → L.getD (fr (rns L 0 0) t + j) 0 ≠ 1073741824) := fun t ht => by
    have h := asc_at (rns L 0 0) (-1) t (asc_all L) (by rw [← hm]; exact ht)
    rw [HL.out] at h
    refine ⟨h.2.2.1, h.2.2.2.1, fun j hj => ?_⟩
    have := h.2.2.2.2 j hj
    rwa [getD_two (by have := HL.out; have := h.2.2.2.1; omega)] at this
  have HML : Hid (m ≤ 2000) := by have := runs_len L; have := HL.out; show m ≤ 2000; omega
  have HCK : Hid (cks L = pre (rns L 0 0) m) := by show _ = _; rw [hm]; exact (pre_all _).symm
  have HPN : Hid (∀ j, j < m → pre (rns L 0 0) (j + 1) = pre (rns L 0 0) j ++ ck (fr (rns L 0 0) j, ct (rns L 0 0) j)) := fun j hj => pre_next _ j (by rw [← hm]; exact hj)
  obtain ⟨R, hR⟩ : ∃ R, rns L 0 0 = R := ⟨_, rfl⟩
  rw [hR] at HAS HCK HPN hz3
  have HZ3 := Lib.hid hz3
  have mi : (m : Int) ≤ 2000 := by have := HML.out; omega
  clear hm hR hz3 hb3 d0 d1 d2
  go_wp2
  go_loopw [4, 17] (fun s4 s17 wr => ∃ (j N : Nat) (us : List (Nat × Value)) (u : Value) (V : World), V = wr ∧ u = s4 ∧ j ≤ m ∧ s17 = .int .i64 (j : Int) ∧ us.length = N ∧ N ≤ 40 * j ∧ wr.ownsRow w3.heap.size 52 2 u N (sgl us) ∧ Srl wr L (pre R j) us ∧ Bel w3 wr) (fun s4 s17 _ => m - (intOf s17).toNat)
  case atStart => exact ⟨0, 0, [], _, _, rfl, rfl, by omega, rfl, rfl, by omega, World.ownsRow_nil _ _ _ _, ⟨rfl, fun j hj => (by simp [pre] at hj)⟩, by first | exact Bel.rf | exact Bel.rf.drw | exact Bel.rf.drwN _⟩
  case round =>
    obtain ⟨j, N, us, u, wr, hwr, hu, hj, rfl, hN, hN2, hown, hsr, hb⟩ := hrel
    subst hwr
    subst hu
    have HO := Lib.hid hown
    have HS := Lib.hid hsr
    have HB := Lib.hid hb
    have HN := Lib.hid hN
    rcases Nat.lt_or_ge j m with hlt | hge
    · obtain ⟨Q, rfl, hql, hqc⟩ := (HZ3.out.bel hb).2 (by omega)
      have hfk := HAS.out j hlt
      have hpn := HPN.out j hlt
      have c1 := (hqc j hlt).1
      have c2 := (hqc j hlt).2
      obtain ⟨f, hf⟩ : ∃ f, fr R j = f := ⟨_, rfl⟩
      obtain ⟨k, hk⟩ : ∃ f, ct R j = f := ⟨_, rfl⟩
      obtain ⟨E, hE⟩ : ∃ E, f + k = E := ⟨_, rfl⟩
      rw [hf, hk] at hfk hpn
      rw [hf] at c1
      rw [hk] at c2
      have HFK := Lib.hid (And.intro hfk (And.intro hpn hE))
      have EN : E ≤ n := hE ▸ hfk.2.1
      have EI : (f : Int) + (k : Int) = (E : Int) := by omega
      have Eb : (E : Int) ≤ 2000 := by omega
      have e1 : IntKind.i64.wrap ((f : Int) + (k : Int)) = (E : Int) := by rw [EI]; exact IntWalk.i64_in _ (by omega)
      have e2 : wrap64 ((f : Int) + (k : Int)) = (E : Int) := by rw [EI]; exact IntWalk.wrap64_in _ (by omega)
      have ji : (j : Int) < (m : Int) := by omega
      clear hown hsr hb hN hql hqc hf hk hfk hpn hE EI Eb
      go_wp2
      go_loopw [4, 8] (fun s4 s8 W => ∃ (t N : Nat) (us : List (Nat × Value)) (u : Value) (V : World), V = W ∧ u = s4 ∧ s8 = .int .i64 ((f + 64 * t : Nat) : Int) ∧ t ≤ (k + 63) / 64 ∧ us.length = N ∧ N ≤ 40 * j + t ∧ W.ownsRow w3.heap.size 52 2 u N (sgl us) ∧ Srl W L (pre R j ++ ckt (f, k) t) us ∧ Bel w3 W) (fun s4 s8 _ => E + 64 - (intOf s8).toNat)
      case atStart => exact ⟨0, N, us, _, _, rfl, rfl, by simp, by omega, HN.out, by omega, own_bel HO.out (by first | exact Bel.rf.al _ | exact (Bel.rf.al _).drwN _), by first | exact (by simpa [ckt] using HS.out.bel (Bel.rf.al _)) | exact (by simpa [ckt] using HS.out.bel ((Bel.rf.al _).drwN _)), by first | exact HB.out.al _ | exact (HB.out.al _).drwN _⟩
      case round =>
        obtain ⟨t, N2, us2, u2, W, hW, hu2, rfl, ht, hN3, hN4, ho2, hs2, hb2⟩ := hrel
        subst hW
        subst hu2
        have HO2 := Lib.hid ho2
        have HS2 := Lib.hid hs2
        have HB2' := Lib.hid hb2
        have HN3 := Lib.hid (And.intro hN3 hN4)
        obtain ⟨a, ha⟩ : ∃ a, f + 64 * t = a := ⟨_, rfl⟩
        rw [ha]
        rcases Nat.lt_or_ge a E with hae | hae
        · obtain ⟨h, rfl⟩ : ∃ h, A = some ⟨h, 0, none⟩ := by
            rcases HZ.out.2.2 with ⟨_, h0⟩ | h0
            · omega
            · exact h0
          obtain ⟨b, hbe⟩ : ∃ b, min (a + 64) E = b := ⟨_, rfl⟩
          obtain ⟨M, hM⟩ : ∃ M, min 64 (k - 64 * t) = M := ⟨_, rfl⟩
          obtain ⟨hf1, hf2, hf3⟩ := HFK.out
          have htk : 64 * t < k := by omega
          have hbM : b = a + M := by omega
          have hM1 : 1 ≤ M ∧ M ≤ 64 := by omega
          have hv := piece_vx (t := t) HSV.out HL.out hf1.2.1 hf1.2.2 htk
          have hz := zi_part ((HZ.out.1.bel (HB3.out.tr hb2))) a M (by omega)
          rw [ha, hM] at hv
          have hxl : ((L.drop a).take M).length = M := by have := HL.out; simp; omega
          have HEN : Hid (∀ V, Bel W V → _) := fun V hV => enc_ok h a (c - a) M _ hv hxl V (hz.bel hV)
          have HX := Lib.hid (And.intro hv hxl)
          obtain ⟨x, hx⟩ : ∃ x, (L.drop a).take M = x := ⟨_, rfl⟩
          rw [hx] at HEN HX
          have HXX := Lib.hid (And.intro hx (And.intro ha (And.intro hM (And.intro hbe (And.intro htk ht)))))
          have d2 : W.cell? ⟨w.heap.size, 2, none⟩ = some (.slice (some ⟨h, 0, none⟩) n c) := (HK3.out.bel hb2).cell 2
          have a64 : (a : Int) ≤ 2000 := by omega
          have bi : min ((a : Int) + 64) (E : Int) = (b : Int) := by omega
          have ab : (a : Int) ≤ (b : Int) := by omega
          have bc : (b : Int) ≤ (c : Int) := by omega
          have ai : (a : Int) < (E : Int) := by omega
          have ac : (c = a) = False := by simp; omega
          have ba : b - a = M := by omega
          have aw : IntKind.i64.wrap ((a : Int) + 64) = (a : Int) + 64 := IntWalk.i64_in _ (by omega)
          have aw2 : wrap64 ((a : Int) + 64) = (a : Int) + 64 := IntWalk.wrap64_in _ (by omega)
          clear ho2 hs2 hb2 hN3 hN4 ha hbe hM hf1 hf2 hf3 htk ht hv hz hxl hx hbM
          go_wp2_with fail
          go_at_call 11
          refine (HEN.out _ (by first | exact Bel.rf | exact Bel.rf.drwN _)).mono ?_
          rintro e V ⟨uE, rfl, hoE, hbE⟩
          have HBE : Hid (Bel W V) := by first | exact hbE | exact (Bel.rf.drwN _).tr hbE
          obtain ⟨NE, hNE⟩ : ∃ N, (seg x).length = N := ⟨_, rfl⟩
          have hNl := (seg_len HX.out.1).1
          rw [hNE] at hNl hoE
          obtain ⟨g1, q1, rfl, hq1, hqm, hq0, hrd⟩ := own_rd hoE (seg_byte HX.out.1) hNE (by omega)
          have HOE : Hid (V.ownsRow 0 5 1 (.slice (some ⟨g1, 0, none⟩) NE q1) NE (By.bys (seg x))) := own_base0 hoE
          have HNE := Lib.hid hNE
          have hNb : N2 ≤ 100000 := t_big HFK.out.2.2 EN (by omega) HXX.out.2.2.2.2.2 HN3.out.2 (by omega)
          have HNB := Lib.hid hNb
          have HS3 : Hid (Srl (V.alloc (.cells #[.int .i64 (a : Int), .slice (some ⟨g1, 0, none⟩) NE q1] 52)) L (pre R j ++ ckt (f, k) t) us2) := (HS2.out.bel HBE.out).bel (Bel.rf.al _)
          have HO3 : Hid ((V.alloc (.cells #[.int .i64 (a : Int), .slice (some ⟨g1, 0, none⟩) NE q1] 52)).ownsRow w3.heap.size 52 2 u2 N2 (sgl us2)) := own_bel HO2.out (HBE.out.al _)
          have HE3 : Hid ((V.alloc (.cells #[.int .i64 (a : Int), .slice (some ⟨g1, 0, none⟩) NE q1] 52)).ownsRow 0 5 1 (.slice (some ⟨g1, 0, none⟩) NE q1) NE (By.bys (seg x))) := own_bel HOE.out (Bel.rf.al _)
          have HTW := Lib.hid (own_two HE3.out HO3.out (by decide))
          clear hoE hbE hNE hNl hq1 hqm hq0 hrd hNb
          go_wp2_with (at_builtin; refine list_apsg _ rfl (.tmp 48) (.tmp 52) rfl w3.heap.size _ _ _ rfl (own_bel HO2.out (HBE.out.al _)) V.heap.size 1 (a, .slice (some ⟨g1, 0, none⟩) NE q1) rfl rfl (Bk.nw _ _ _) HNB.out (by have := (HB2'.out.tr HBE.out).size; simp; omega) ?_; intro v' w9 h9 hg9 hat9; have H9 := Lib.hid (And.intro h9 (And.intro hg9 hat9)); clear h9 hg9 hat9)
          go_roundw
          case rel =>
            obtain ⟨x1, x2, x3, x4, x5, x6⟩ := HXX.out
            refine ⟨t + 1, N2 + 1, us2 ++ [(a, .slice (some ⟨g1, 0, none⟩) NE q1)], _, _, rfl, rfl, v_next x2, t_next x5, by simp [HN3.out.1], by have := HN3.out.2; clear aw aw2 bi; omega, H9.out.1, ?_, bel_grown (HB2'.out.tr (HBE.out.al _)) H9.out.2.1 (own_base HO2.out)⟩
            have hlt : (a, M) = (f + 64 * t, min 64 (k - 64 * t)) := by rw [x2, x3]
            rw [ckt_next, ← List.append_assoc, ← hlt]
            have hs9 := HS3.out.kept HO3.out H9.out.2.1
            refine hs9.snoc ⟨rfl, NE, by rw [x1]; exact HNE.out, ?_⟩
            rw [x1]
            exact HE3.out.kept H9.out.2.1 (HTW.out.imp id Ne.symm)
          case measure => simp [intOf]; clear aw aw2 bi; omega
        · obtain ⟨hf1, hf2, hf3⟩ := HFK.out
          have hte := t_end hf3 ha hae ht
          have HTE := Lib.hid hte
          have HTS := Lib.hid (t_small hf3 EN (by omega) ht hN4)
          have ai : ¬ (a : Int) < (E : Int) := by omega
          clear ho2 hs2 hb2 hN3 hN4 ha hf1 hf2 hf3 hte ht
          go_wp2
          go_roundw
          case rel =>
            refine ⟨j + 1, N2, us2, _, _, rfl, rfl, by omega, by go_num, HN3.out.1, HTS.out, HO2.out, ?_, HB2'.out⟩
            have h9 := HS2.out
            rw [HTE.out] at h9
            rw [HFK.out.2.1]
            exact h9
          case measure => simp [intOf]; omega
    · obtain rfl : j = m := by omega
      clear hown hsr hb hN
      go_wp2
      go_ret2
      have h9 := HS.out
      rw [← HCK.out] at h9
      exact ⟨_, N, us, rfl, by rw [← HN.out]; exact h9.1, HN.out, own_lo HO.out HB3.out.size, h9, HB3.out.tr HB.out⟩
end Go.Proofs.Ytaplbkfmedofcaa.Se
