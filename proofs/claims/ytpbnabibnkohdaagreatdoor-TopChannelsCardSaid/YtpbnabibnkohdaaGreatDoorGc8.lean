/- Merged: SgAll SgLL TopR TopL TcM. -/
import Derived.Test.YtpbnabibnkohdaaGreatDoorGc1
import Derived.Test.YtpbnabibnkohdaaGreatDoorGc2
import Derived.Test.YtpbnabibnkohdaaGreatDoorGc3
import Derived.Test.YtpbnabibnkohdaaGreatDoorGc4
import Derived.Test.YtpbnabibnkohdaaGreatDoorGc5
import Derived.Test.YtpbnabibnkohdaaGreatDoorGc6
import Derived.Test.YtpbnabibnkohdaaGreatDoorGc7
import Derived.BigQuiet
import Derived.Laws.CopyOwn
import Derived.Stop.Joined
import Derived.Stop.LaidErr
import Derived.LaidMore
import Derived.MakeChecks
namespace Go.Proofs.YtpbnabibnkohdaaGreatDoor.Se
open Go.ChangeShapes Go.WideShapes Go.RowKit Wo Sr Wi
set_option linter.unusedVariables false
theorem good_out {L : List Int} {i m : Nat} (h : L.length < i + m) : good L m i = false := by
  unfold good; exact decide_eq_false (fun h2 => by omega)
theorem good_part {L : List Int} {i m : Nat} (h : i + m ≤ L.length) : (!good L m i) = true ↔ ∃ j, j < m ∧ ((L.drop i).take m).getD j 0 = 1073741824 := by
  have e : ∀ j, j < m → ((L.drop i).take m).getD j 0 = L.getD (i + j) 1073741824 := fun j hj => by
    simp only [List.getD_eq_getElem?_getD, List.getElem?_take, List.getElem?_drop, hj, if_true]
    rw [List.getElem?_eq_getElem (show i + j < L.length by omega)]; rfl
  constructor
  · intro hb
    have hg : ¬ good L m i = true := by simpa using hb
    rw [good_iff] at hg
    refine Classical.byContradiction fun hne => hg ⟨h, fun j hj h2 => hne ⟨j, hj, by rw [e j hj]; exact h2⟩⟩
  · rintro ⟨j, hj, h2⟩
    have : ¬ good L m i = true := by
      rw [good_iff]
      rintro ⟨_, h3⟩
      exact h3 j hj (by rw [← e j hj]; exact h2)
    simpa using this
theorem kp_far {w : World} {p q : Addr} {v : Value} (h : w.cell? p = some v) (hn : p.block ≠ q.block) (u : Value) : (w.setCell q u).cell? p = some v := (World.cell?_setCell_other _ _ _ _ (fun e => hn (congrArg Addr.block e).symm)).trans h
def SomeCut (st sp : Int) (k : Nat) (Z : List Int) (w : World) (e : Ending) (w' : World) : Prop := ∃ A c, e = .returned (.tuple #[.agg #[.int .i64 st, .int .i64 sp, .slice A k c], .int .i64 0]) ∧ Vs w' A k c Z ∧ Bel w w'
end Go.Proofs.YtpbnabibnkohdaaGreatDoor.Se
namespace Go.Proofs.YtpbnabibnkohdaaGreatDoor.Se
open Go.ChangeShapes Go.WideShapes Go.RowKit Wo Sr Wi
set_option linter.unusedVariables false
def stz (L : List Int) (m : Nat) : List Int := (sts L m).map Int.ofNat
theorem stz_len (L : List Int) (m : Nat) : (stz L m).length = (sts L m).length := by simp [stz]
theorem stz_at {L : List Int} {m i : Nat} (h : i < (sts L m).length) : (stz L m).getD i 0 = ((sts L m).getD i 0 : Nat) := by
  simp [stz, List.getD_eq_getElem?_getD, h]
def SomeStarts (L : List Int) (m : Nat) (w : World) (e : Ending) (w' : World) : Prop := ∃ (A : Option Addr) (k c : Nat), e = .returned (.slice A k c) ∧ k = (sts L m).length ∧ Zi w' A k (stz L m) ∧ Bel w w'
theorem sts_ex : sts exL 2 = [0, 3, 4] := by decide
theorem we_ex : we exL 1 2 = 13 := by decide
theorem wz_ex : wz exL 1 2 = [] := by decide
theorem sb_ex : Sb 100 10 6 := by unfold Sb; decide
def SomeMiss (w : World) (e : Ending) (w' : World) : Prop := ∃ (A : Option Addr) (k c : Nat), e = .returned (.tuple #[.slice A k c, .int .i64 13]) ∧ Bel w w'
end Go.Proofs.YtpbnabibnkohdaaGreatDoor.Se
namespace Go.Proofs.YtpbnabibnkohdaaGreatDoor.Se
open Go.RowKit Go.Shelf Wo Sr Wi
set_option linter.unusedVariables false
attribute [local go_sem] Oper.semAt_some
/-- runs, flat -/
def rr (l : List (Nat × Nat)) : List Value := l.flatMap fun p => [.int .i64 (p.1 : Int), .int .i64 (p.2 : Int)]
theorem rr_cons (p : Nat × Nat) (l : List (Nat × Nat)) : rr (p :: l) = .int .i64 (p.1 : Int) :: .int .i64 (p.2 : Int) :: rr l := rfl
theorem rr_app (a b : List (Nat × Nat)) : rr (a ++ b) = rr a ++ rr b := by simp [rr]
def fr (l : List (Nat × Nat)) (i : Nat) : Nat := (l.getD i (0, 0)).1
def ct (l : List (Nat × Nat)) (i : Nat) : Nat := (l.getD i (0, 0)).2
theorem rr_at (l : List (Nat × Nat)) (i : Nat) (h : i < l.length) : (rr l)[i * 2]? = some (.int .i64 (fr l i : Int)) ∧ (rr l)[i * 2 + 1]? = some (.int .i64 (ct l i : Int)) := by
  induction l generalizing i with
  | nil => simp at h
  | cons p l ih =>
    rcases i with _ | i
    · exact ⟨rfl, rfl⟩
    · have := ih i (by simpa using h)
      rw [rr_cons, show (i + 1) * 2 = i * 2 + 1 + 1 by omega]
      simpa [fr, ct] using this
def Zq (w : World) (A : Option Addr) (n : Nat) (l : List (Nat × Nat)) : Prop := l.length = n ∧ (0 < n → ∃ g : Nat, A = some ⟨g, 0, none⟩ ∧ g < w.heap.size ∧ ∀ j, j < n → w.cell? ⟨g, j * 2, none⟩ = some (.int .i64 (fr l j : Int)) ∧ w.cell? ⟨g, j * 2 + 1, none⟩ = some (.int .i64 (ct l j : Int)))
theorem Zq.bel {w w' : World} {A : Option Addr} {n : Nat} {l : List (Nat × Nat)} (h : Zq w A n l) (hb : Bel w w') : Zq w' A n l :=
  ⟨h.1, fun hn => by
    obtain ⟨ad, e, hx, hc⟩ := h.2 hn
    exact ⟨ad, e, by have := hb.size; omega, fun j hj => ⟨hb.kp (hc j hj).1, hb.kp (hc j hj).2⟩⟩⟩
theorem own_zq {w : World} {base k : Nat} {v : Value} {l : List (Nat × Nat)} (hr : w.ownsRow base 111 2 v k (rr l)) (hk : l.length = k) : ∃ A c, v = .slice A k c ∧ Zq w A k l := by
  rcases hr.2 with ⟨rfl, rfl⟩ | ⟨g, cap, cur, rfl, hb, hg, rest⟩
  · exact ⟨none, 0, rfl, hk, fun h => by omega⟩
  · refine ⟨_, cap, rfl, hk, fun hn => ⟨_, rfl, (hr.lt g rfl).2, fun j hj => ?_⟩⟩
    have e := rr_at l j (by omega)
    have h1 := hr.cells (g := g) rfl _ _ e.1
    have h2 := hr.cells (g := g) rfl _ _ e.2
    rw [add_row] at h1 h2
    exact ⟨h1, h2⟩
theorem info_run : (Tryz.prog.info? 111).map (fun i => (i.zero, i.size, i.bytes)) = some (some (.agg #[.int .i64 0, .int .i64 0]), 2, 16) := by kernel_rfl
set_option maxRecDepth 100000 in
set_option maxHeartbeats 4000000 in
theorem aseq_in (Bx : Nat) (A : Option Addr) (c n : Nat) (L : List Int) (hn : n ≤ 2000) (w : World) (hbx : w.cell? ⟨Bx, 0, none⟩ = some (.slice A n c)) (hz : Zi w A n L) :
    CallsIn Fence.wide 3 Tryz.prog 119 #[.slice none 0 0, .func (.func 120) #[] #[.pointer (some ⟨Bx, 0, none⟩)]] w fun e W' => ∃ v, e = .returned v ∧ W'.ownsRow w.heap.size 111 2 v (rns L 0 0).length (rr (rns L 0 0)) ∧ Below w.heap.size w W' := by
  obtain ⟨i0, hi, hz0, hz1, hz2⟩ := info_parts info_run
  have HI := Lib.hid (And.intro hi (And.intro hz0 (And.intro hz1 hz2)))
  have hxl := World.block_lt_of_cell? w _ hbx
  have hne : 0 < n → ∀ ad, A = some ad → ad.block ≠ w.heap.size := fun h ad e => by have := zi_lt hz ad h e; omega
  clear hi hz0 hz1 hz2
  refine callsIn_of_wp_marks Tryz.func119 rfl trivial ?_ rfl
  simp only [Tryz.ntmps119, List.size_toArray, List.length_cons, List.length_nil, Nat.reduceAdd, Nat.reduceSub, Array.replicate_succ, Array.replicate_zero, List.push_toArray, List.append_toArray, List.nil_append, List.cons_append]
  gi_wp2
  have bO := Boxed.new w 108 (.slice none 0 0)
  refine wpIn_rangeFunc_ownH rfl (by omega) (gf := 120) (lb := #[.pointer (some ⟨Bx, 0, none⟩)]) rfl trivial (enters_of Tryz.func120 (by kernel_rfl) rfl)
    (runs_stops 2 (by omega) w.heap.size Bx A c n L (by omega) _ (by simp; exact Nat.lt_succ_of_lt hxl) (by have : Bx < w.heap.size := hxl; omega) (kp_al hbx _) (hz.bel (Bel.rf.al _)) hne) kq_t (fun W l o o' hl h2 h3 h4 => kq_b W l o o' hl h2) (Below.refl _ _) (fun _ => rfl)
    (fun pre W => ((∃ v, Boxed W w.heap.size 108 v ∧ W.ownsRow (w.heap.size + 1) 111 2 v pre.length (rr (rv pre)) ∧ True) ∧ w.heap.size + 1 ≤ W.heap.size) ∧ Below w.heap.size w W)
    (fun _ _ _ => False)
    (OwnFrom.and (OwnFrom.and (Own.from (holdsRow_own (w.heap.size + 1) w.heap.size 108 111 2 (fun pre => pre.length) (fun pre => rr (rv pre)) (fun _ _ => True)) _) (fun s A B row h hg hr => Nat.le_trans h hg.size)) (ownFrom_below (Nat.le_refl _) (by simp)))
    (fun _ _ _ _ _ hs _ _ => hs)
    ⟨⟨⟨_, bO, World.ownsRow_nil _ _ _ _, trivial⟩, by simp⟩, (Below.refl _ w).alloc (Nat.le_refl _) _⟩
    (fun x a' W => ∃ By, w.heap.size + 1 ≤ By ∧ Bk W By 111 #[.int .i64 (x.1.1 : Int), .int .i64 (x.1.2 : Int)] ∧ a' = { tmps := #[.slice none 0 0, .func (.func 120) #[] #[.pointer (some ⟨Bx, 0, none⟩)], .pointer (some ⟨w.heap.size, 0, none⟩), undef, .slice none 0 0, .pointer (some ⟨By, 0, none⟩), .func (.func 120) #[] #[.pointer (some ⟨Bx, 0, none⟩)], .agg #[.int .i64 (x.1.1 : Int), .int .i64 (x.1.2 : Int)], undef, undef, undef, undef, undef], defers := [] })
    (fun x a' _ A B row hs hg hr => by obtain ⟨By, q1, q2, q3⟩ := hs; exact ⟨By, q1, bk_own q2 hg hr, q3⟩)
    ?assign ?body ?done ?stop
  case assign =>
    rintro l pre x W K ⟨⟨⟨v, hv, hrow, _⟩, hsz2⟩, hB⟩ hK
    have hvl := hv.lt
    unfold encr
    gi_wp2
    have hbw : Below (w.heap.size + 1) W (W.alloc (.cells #[.int .i64 (x.1.1 : Int), .int .i64 (x.1.2 : Int)] 111)) := (Below.refl _ W).alloc hsz2 _
    exact hK _ _ ((KeepsOthers.alloc _ _).from _) (by have := kq_bl (Bo := w.heap.size) hbw hsz2; simpa using this) ⟨⟨⟨v, hv.alloc _, hrow.alloc _, trivial⟩, by simp; omega⟩, hB.alloc hB.size _⟩ ⟨W.heap.size, hsz2, Bk.nw _ _ _, rfl⟩
  case body =>
    rintro l pre x a' W hl ⟨r, hr⟩ ⟨⟨⟨v, hv, hrow, _⟩, hsz2⟩, hB⟩ ⟨By, hBy, hkx, rfl⟩ hlt
    have hc := hv.cell
    obtain ⟨x1, hx1⟩ : ∃ y, x.1.1 = y := ⟨_, rfl⟩
    obtain ⟨x2, hx2⟩ : ∃ y, x.1.2 = y := ⟨_, rfl⟩
    rw [hx1, hx2] at hkx ⊢
    have hcx : W.cell? ⟨By, 0, none⟩ = some (.int .i64 (x1 : Int)) := hkx.cell 0
    have hcy : W.cell? ⟨By, 1, none⟩ = some (.int .i64 (x2 : Int)) := hkx.cell 1
    have hyl := hkx.lt
    have hvl := hv.lt
    have HX := Lib.hid (And.intro hx1 hx2)
    have HV := Lib.hid (And.intro hv (And.intro hrow (And.intro hsz2 hB)))
    clear hx1 hx2 hv hrow hsz2 hB hkx hr
    gi_wp2_with (gi_at_builtin; refine wpListIn_append_own _ rfl _ _ 108 rfl (w.heap.size + 1) 111 i0 (.agg #[.int .i64 0, .int .i64 0]) 2 16 Tryz.underlying108 HI.out.1 HI.out.2.1 HI.out.2.2.1 HI.out.2.2.2 rfl (by decide) _ _ _ rfl (HV.out.2.1.alloc _) ⟨W.heap.size, 0, none⟩ 1 1 [.int .i64 (x1 : Int), .int .i64 (x2 : Int)] rfl rfl (World.news_of_block (cs := #[.int .i64 (x1 : Int), .int .i64 (x2 : Int)]) (t := 111) (fr := (0, 0)) (heap_alloc_new _ _)) (by simp [Value.oneCell']) (by unfold maxLen; omega) (by omega) (by have := HV.out.2.2.1; simp; omega) ?_; intro v2 w1 hown' hgrow _; obtain ⟨g', cap', rfl⟩ := ownsRow_succ hown'; obtain ⟨hv1, hv2, hr2, hk2, hb2⟩ := HV.out.1.appended (by decide) (own_lo HV.out.2.1 (by omega)) HV.out.2.2.2.size (Nat.le_refl _) (own_lo hown' (by omega)) hgrow; have hc1 := hv1.cell; have hf1 := hv1.frozen; have HG := Lib.hid (And.intro hown' (And.intro hgrow (And.intro hv1 (And.intro hv2 (And.intro hk2 hb2))))); clear hown' hgrow hv1 hv2 hr2 hk2 hb2)
    obtain ⟨hv, hrow, hsz2, hB⟩ := HV.out
    obtain ⟨hown', hgrow, hv1, hv2, hk2, hb2⟩ := HG.out
    have hne := hgrow.block
    have kc : ∀ b, b < w.heap.size + 1 → b ≠ w.heap.size → (w1.setCell ⟨w.heap.size, 0, none⟩ (.slice (some ⟨g', 0, none⟩) (pre.length + 1) cap')).heap[b]? = W.heap[b]? := fun b hb0 hb1 => by
      refine Eq.trans (Below.heap_setCell _ _ _ b hb1) ?_
      refine (hne b (by rw [World.size_alloc]; omega) (own_ne hrow hb0)).trans ?_
      exact Below.heap_alloc _ _ _ (by omega)
    have hszw : w.heap.size + 1 ≤ (w1.setCell ⟨w.heap.size, 0, none⟩ (.slice (some ⟨g', 0, none⟩) (pre.length + 1) cap')).heap.size := by
      have := hgrow.size
      simp [World.setCell] at *
      omega
    refine ⟨hk2.from _, ⟨fun b h1 h2 => by simp at h1; exact kc b h1 h2, by simpa using hszw⟩, ⟨⟨_, hv2, ?_, trivial⟩, hszw⟩, hB.trans hb2⟩
    have e1 : (pre ++ [x]).length = pre.length + 1 := by simp
    have e2 : rr (rv (pre ++ [x])) = rr (rv pre) ++ [.int .i64 (x1 : Int), .int .i64 (x2 : Int)] := by
      rw [rv_snoc, rr_app, ← HX.out.1, ← HX.out.2]; rfl
    rw [e1, e2]
    exact hown'.kept (grownBy_setCell' w1 _ _) (.inr (hv1.not_row (by decide) hown').symm)
  case done =>
    rintro D ys W hD hys ⟨⟨⟨v, hv, hrow, _⟩, hsz2⟩, hB⟩ hK
    have hc := hv.cell
    have hlen : ys.length = (rns L 0 0).length := by rw [← hys]; simp [rv]
    rw [hys, hlen] at hrow
    clear hys hlen
    have HR := Lib.hid hrow
    have HB := Lib.hid hB
    clear hrow hB
    gi_wp2
    refine ⟨by simp, .inl ⟨_, _, rfl, run_takeDeferred hK, ?_⟩⟩
    exact ⟨_, results_tmp rfl _ _ _, _, rfl, own_lo (ownsRow_putObj HR.out _ hK rfl) (by omega), HB.out.trans (belowK_b (w := w) (Nat.le_refl _) W D _ _ (by simp at hD; omega) hK rfl rfl)⟩
  case stop =>
    rintro D c pre W _ _ h _
    exact h.elim
end Go.Proofs.YtpbnabibnkohdaaGreatDoor.Se
namespace Go.Proofs.YtpbnabibnkohdaaGreatDoor.Se
open Go.ChangeShapes Go.WideShapes Go.RowKit Wo Sr Wi
set_option linter.unusedVariables false
def SomeRuns (L : List Int) (w : World) (e : Ending) (w' : World) : Prop := ∃ (A : Option Addr) (k c : Nat), e = .returned (.slice A k c) ∧ k = (rns L 0 0).length ∧ Zq w' A k (rns L 0 0) ∧ Bel w w'
theorem aseq_c (Bx : Nat) (A : Option Addr) (c n : Nat) (L : List Int) (hn : n ≤ 2000) (w : World) (hbx : w.cell? ⟨Bx, 0, none⟩ = some (.slice A n c)) (hz : Zi w A n L) :
    Calls Tryz.prog 119 #[.slice none 0 0, .func (.func 120) #[] #[.pointer (some ⟨Bx, 0, none⟩)]] w (SomeRuns L w) := by
  refine (callsIn_wide.1 (aseq_in Bx A c n L hn w hbx hz)).mono ?_
  rintro e w' ⟨v, rfl, hr, hb⟩
  obtain ⟨A', c', rfl, hz'⟩ := own_zq hr rfl
  exact ⟨A', _, c', rfl, rfl, hz', hb⟩
theorem collect_c (Bx : Nat) (A : Option Addr) (c n : Nat) (L : List Int) (hn : n ≤ 2000) (w : World) (hbx : w.cell? ⟨Bx, 0, none⟩ = some (.slice A n c)) (hz : Zi w A n L) :
    Calls Tryz.prog 94 #[.func (.func 120) #[] #[.pointer (some ⟨Bx, 0, none⟩)]] w (SomeRuns L w) := by
  have AS := Lib.hid (aseq_c Bx A c n L hn w hbx hz)
  clear hbx hz
  go_enter Tryz.func94, Tryz.ntmps94
  go_wp2_with fail
  go_at_call 119
  refine AS.out.mono ?_
  rintro e w2 ⟨A', k', c', rfl, hk', hz', hb'⟩
  have HX := Lib.hid (And.intro hk' (And.intro hz' hb'))
  clear hk' hz' hb'
  go_wp2
  go_ret
  exact ⟨A', k', c', rfl, HX.out.1, HX.out.2.1, HX.out.2.2⟩
theorem runs_c (st sp : Int) (A : Option Addr) (n c : Nat) (L : List Int) (h : Sb st sp n) (hs : Sv L) (w : World) (hz : Zi w A n L) :
    Calls Tryz.prog 64 #[.agg #[.int .i64 st, .int .i64 sp, .slice A n c]] w (SomeRuns L w) := by
  have VA : Hid (∀ W, Zi W A n L → _) := fun W hW => valid_ok st sp A n c L h hs W hW
  have RN : Hid (∀ W, _) := fun W => runs_ok A n c W
  have CC : Hid (∀ Bx W, W.cell? ⟨Bx, 0, none⟩ = some (.slice A n c) → Zi W A n L → _) := fun Bx W h1 h2 => collect_c Bx A c n L h.2.2.2.2 W h1 h2
  have HZ := Lib.hid hz
  have HK := Lib.hid (Bk.nw w 68 #[.int .i64 st, .int .i64 sp, .slice A n c])
  clear hz hs h
  go_enter Tryz.func64, Tryz.ntmps64
  go_wp2_with fail
  go_at_call 63
  refine (VA.out _ (HZ.out.bel (Bel.rf.al _))).mono ?_
  rintro e w2 ⟨rfl, hb2⟩
  have B1 := HK.out.bel hb2
  have d2 := B1.cell 2
  have HB2 : Hid (Bel w w2) := (Bel.rf.al _).tr hb2
  clear B1 hb2
  go_wp2_with fail
  go_at_call 95
  refine (RN.out _).mono ?_
  rintro e w3 ⟨rfl, rfl⟩
  go_wp2_with fail
  go_at_call 94
  refine (CC.out _ _ ((Bk.nw w2 22 #[.slice A n c]).cell 0) (HZ.out.bel (HB2.out.al _))).mono ?_
  rintro e w4 ⟨A', k', c', rfl, hk', hz', hb'⟩
  have HX := Lib.hid (And.intro hk' (And.intro hz' hb'))
  clear hk' hz' hb'
  go_wp2
  go_ret
  exact ⟨A', k', c', rfl, HX.out.1, HX.out.2.1, HB2.out.tr ((Bel.rf.al _).tr HX.out.2.2)⟩
/-- where the run before t ends -/
def ed (l : List (Nat × Nat)) : Nat → Int
  | 0 => -1
  | t + 1 => (fr l t : Int) + (ct l t : Int)
/-- the values of the first t runs -/
def sm (l : List (Nat × Nat)) : Nat → Nat
  | 0 => 0
  | t + 1 => sm l t + ct l t
theorem asc_at {W : List Int} : ∀ (l : List (Nat × Nat)) (e : Int) (t : Nat), Asc W e l → t < l.length → (t = 0 → e < (fr l 0 : Int)) ∧ (∀ u, t = u + 1 → (fr l u : Int) + (ct l u : Int) < (fr l t : Int)) ∧ 1 ≤ ct l t ∧ fr l t + ct l t ≤ W.length ∧ ∀ j, j < ct l t → W.getD (fr l t + j) 1073741824 ≠ 1073741824
  | [], e, t, _, ht => by simp at ht
  | r :: rs, e, 0, h, ht => ⟨fun _ => h.1, fun u hu => by omega, h.2.1, h.2.2.1, h.2.2.2.1⟩
  | r :: rs, e, t + 1, h, ht => by
    have ih := asc_at rs ((r.1 : Int) + r.2) t h.2.2.2.2 (by simpa using ht)
    refine ⟨fun h0 => by omega, fun u hu => ?_, ih.2.2.1, ih.2.2.2.1, ih.2.2.2.2⟩
    have : u = t := by omega
    subst this
    rcases u with _ | u
    · exact ih.1 rfl
    · exact ih.2.1 u rfl
theorem ed_lt {L : List Int} {t : Nat} (ht : t < (rns L 0 0).length) : ed (rns L 0 0) t < (fr (rns L 0 0) t : Int) := by
  have h := asc_at (rns L 0 0) (-1) t (asc_all L) ht
  rcases t with _ | t
  · exact h.1 rfl
  · exact h.2.1 t rfl
theorem sm_all : ∀ l : List (Nat × Nat), sm l l.length = (l.map Prod.snd).sum := by
  have key : ∀ (l : List (Nat × Nat)) (t : Nat), t ≤ l.length → sm l t = ((l.take t).map Prod.snd).sum := by
    intro l t
    induction t with
    | zero => intro _; simp [sm]
    | succ t ih =>
      intro ht
      have e : l.take (t + 1) = l.take t ++ [l.getD t (0, 0)] := by
        rw [List.take_succ_eq_append_getElem (by omega), List.getD_eq_getElem?_getD, List.getElem?_eq_getElem (by omega)]; rfl
      show sm l t + ct l t = _
      rw [ih (by omega), e]
      simp [ct]
  intro l
  have := key l l.length (Nat.le_refl _)
  rwa [List.take_length] at this
theorem sm_cnt (L : List Int) : sm (rns L 0 0) (rns L 0 0).length = cnt L := by
  rw [sm_all, rns_sum]; omega
theorem sm_le (l : List (Nat × Nat)) : ∀ (q t : Nat), t ≤ q → sm l t ≤ sm l q
  | 0, t, h => by have : t = 0 := by omega
                  subst this; exact Nat.le_refl _
  | q + 1, t, h => by
    rcases Nat.lt_or_ge t (q + 1) with h1 | h1
    · have := sm_le l q t (by omega)
      show _ ≤ sm l q + ct l q
      omega
    · have : t = q + 1 := by omega
      subst this; exact Nat.le_refl _
theorem cnt_le (L : List Int) : cnt L ≤ L.length := List.countP_le_length
theorem cnt_take (L : List Int) (t : Nat) (h : t < L.length) : cnt (L.take (t + 1)) = cnt (L.take t) + if L.getD t 1073741824 = 1073741824 then 0 else 1 := by
  have e : L.take (t + 1) = L.take t ++ [L.getD t 1073741824] := by
    rw [List.take_succ_eq_append_getElem h, List.getD_eq_getElem?_getD, List.getElem?_eq_getElem h]; rfl
  rw [e, cnt_app]
  generalize L.getD t 1073741824 = x
  congr 1
  unfold cnt
  split
  · rename_i hh; simp [hh]
  · rename_i hh; simp [hh]
theorem runs_len (L : List Int) : (rns L 0 0).length ≤ L.length := by
  have h : ∀ (l : List (Nat × Nat)), (∀ t, t < l.length → 1 ≤ ct l t) → l.length ≤ sm l l.length := by
    intro l hl
    have : ∀ t, t ≤ l.length → t ≤ sm l t := by
      intro t
      induction t with
      | zero => intro _; exact Nat.zero_le _
      | succ t ih => intro ht; have := ih (by omega); have := hl t (by omega); show _ ≤ sm l t + ct l t; omega
    exact this _ (Nat.le_refl _)
  have h1 := h (rns L 0 0) (fun t ht => (asc_at _ (-1) t (asc_all L) ht).2.2.1)
  rw [sm_cnt] at h1
  exact Nat.le_trans h1 (cnt_le L)
theorem getD_two {L : List Int} {i : Nat} (h : i < L.length) : L.getD i 1073741824 = L.getD i 0 := by
  simp [List.getD_eq_getElem?_getD, List.getElem?_eq_getElem h]
end Go.Proofs.YtpbnabibnkohdaaGreatDoor.Se
namespace Go.Proofs.YtpbnabibnkohdaaGreatDoor.Se
open Go.ChangeShapes Go.WideShapes Go.RowKit Wo Sr Wi
set_option linter.unusedVariables false
end Go.Proofs.YtpbnabibnkohdaaGreatDoor.Se
namespace Go.Proofs.YtpbnabibnkohdaaGreatDoor.Se
open Go.ChangeShapes Go.WideShapes Go.RowKit Wo Sr Wi
set_option linter.unusedVariables false
def fl (i c : Nat) : List (Nat × Nat) := if 0 < c then [(i - c, c)] else []
def rn0 : List Int → Nat → Nat → List (Nat × Nat)
  | [], _, _ => []
  | v :: vs, i, c => if v = 1073741824 then fl i c ++ rn0 vs (i + 1) 0 else rn0 vs (i + 1) (c + 1)
def tc : List Int → Nat → Nat
  | [], c => c
  | v :: vs, c => if v = 1073741824 then tc vs 0 else tc vs (c + 1)
theorem rns_split : ∀ (vs : List Int) (i c : Nat), rns vs i c = rn0 vs i c ++ fl (i + vs.length) (tc vs c)
  | [], i, c => by by_cases h : 0 < c <;> simp [rns, rn0, fl, tc, h]
  | v :: vs, i, c => by
    have e : i + (v :: vs).length = i + 1 + vs.length := by simp; omega
    rw [e]
    unfold rns rn0 tc
    by_cases h : v = 1073741824
    · simp only [if_pos h]
      rw [rns_split vs (i + 1) 0]
      by_cases h2 : 0 < c
      · simp [fl, h2]
      · simp [fl, h2]
    · simp only [if_neg h]
      rw [rns_split vs (i + 1) (c + 1)]
theorem rn0_snoc (x : Int) : ∀ (vs : List Int) (i c : Nat), rn0 (vs ++ [x]) i c = if x = 1073741824 then rn0 vs i c ++ fl (i + vs.length) (tc vs c) else rn0 vs i c
  | [], i, c => by
    show rn0 [x] i c = _
    unfold rn0
    by_cases h : x = 1073741824 <;> simp [h, rn0, tc]
  | v :: vs, i, c => by
    have e : i + (v :: vs).length = i + 1 + vs.length := by simp; omega
    rw [e, List.cons_append]
    unfold rn0 tc
    by_cases h : v = 1073741824
    · simp only [if_pos h]
      rw [rn0_snoc x vs (i + 1) 0]
      by_cases h2 : x = 1073741824 <;> simp [h2]
    · simp only [if_neg h]
      rw [rn0_snoc x vs (i + 1) (c + 1)]
theorem tc_snoc (x : Int) : ∀ (vs : List Int) (c : Nat), tc (vs ++ [x]) c = if x = 1073741824 then 0 else tc vs c + 1
  | [], c => by
    show tc [x] c = _
    unfold tc
    by_cases h : x = 1073741824 <;> simp [h, tc]
  | v :: vs, c => by
    rw [List.cons_append]
    unfold tc
    by_cases h : v = 1073741824
    · simp only [if_pos h]; exact tc_snoc x vs 0
    · simp only [if_neg h]; exact tc_snoc x vs (c + 1)
theorem tc_le : ∀ (vs : List Int) (c : Nat), tc vs c ≤ c + vs.length
  | [], c => by simp [tc]
  | v :: vs, c => by
    unfold tc
    have h1 := tc_le vs 0
    have h2 := tc_le vs (c + 1)
    split <;> simp <;> omega
/-- the runs of the first k values -/
def Rk (L : List Int) (k : Nat) : List (Nat × Nat) := rns (L.take k) 0 0
theorem tk_next (L : List Int) (k : Nat) (h : k < L.length) : L.take (k + 1) = L.take k ++ [L.getD k 0] := by
  rw [List.take_add_one, List.getD_eq_getElem?_getD, List.getElem?_eq_getElem h]; rfl
theorem Rk_none {L : List Int} {k : Nat} (h : k < L.length) (hx : L.getD k 0 = 1073741824) : Rk L (k + 1) = Rk L k := by
  unfold Rk
  rw [tk_next L k h, rns_split, rn0_snoc, tc_snoc, if_pos hx, if_pos hx, rns_split (L.take k)]
  simp [fl]
theorem Rk_some {L : List Int} {k : Nat} (h : k < L.length) (hx : L.getD k 0 ≠ 1073741824) : Rk L (k + 1) = rn0 (L.take k) 0 0 ++ [(k - tc (L.take k) 0, tc (L.take k) 0 + 1)] := by
  have hl : (L.take k).length = k := by simp; omega
  unfold Rk
  rw [tk_next L k h, rns_split, rn0_snoc, tc_snoc, if_neg hx, if_neg hx]
  simp only [fl, List.length_append, hl, List.length_cons, List.length_nil]
  rw [if_pos (by omega)]
  rw [show 0 + (k + (0 + 1)) - (tc (L.take k) 0 + 1) = k - tc (L.take k) 0 by omega]
theorem tc_at {L : List Int} {j : Nat} (h : j < L.length) : tc (L.take (j + 1)) 0 = if L.getD j 0 = 1073741824 then 0 else tc (L.take j) 0 + 1 := by
  rw [tk_next L j h, tc_snoc]
theorem Rk_new {L : List Int} {k : Nat} (h : k < L.length) (hx : L.getD k 0 ≠ 1073741824) (h0 : k = 0 ∨ ∃ j, j + 1 = k ∧ L.getD j 0 = 1073741824) : Rk L (k + 1) = Rk L k ++ [(k, 1)] := by
  have ht : tc (L.take k) 0 = 0 := by
    rcases h0 with rfl | ⟨j, rfl, hj⟩
    · rfl
    · rw [tc_at (by omega), if_pos hj]
  rw [Rk_some h hx, ht]
  have : Rk L k = rn0 (L.take k) 0 0 := by
    unfold Rk
    rw [rns_split, ht]
    simp [fl]
  rw [this]
  rfl
theorem Rk_more {L : List Int} {k j : Nat} (h : k < L.length) (hx : L.getD k 0 ≠ 1073741824) (hj : j + 1 = k) (hy : L.getD j 0 ≠ 1073741824) : ∃ (P : List (Nat × Nat)) (f c : Nat), Rk L k = P ++ [(f, c)] ∧ Rk L (k + 1) = P ++ [(f, c + 1)] ∧ c ≤ k := by
  have hl : (L.take k).length = k := by simp; omega
  have ht : 0 < tc (L.take k) 0 := by
    subst hj
    rw [tc_at (by omega), if_neg hy]; omega
  have hle := tc_le (L.take k) 0
  refine ⟨rn0 (L.take k) 0 0, k - tc (L.take k) 0, tc (L.take k) 0, ?_, Rk_some h hx, by omega⟩
  unfold Rk
  rw [rns_split, hl]
  unfold fl
  rw [if_pos ht, show 0 + k = k by omega]
theorem rr_len (l : List (Nat × Nat)) : (rr l).length = l.length * 2 := by
  induction l with
  | nil => rfl
  | cons p l ih => rw [rr_cons, List.length_cons, List.length_cons, ih, List.length_cons]; omega
theorem Rk_len (L : List Int) (k : Nat) : (Rk L k).length ≤ k := by
  have := runs_len (L.take k)
  have h2 : (L.take k).length ≤ k := by simp; omega
  unfold Rk; omega
/-- the last pair's second half set -/
theorem own_last {w : World} {base h n c p f q : Nat} {P : List (Nat × Nat)} {e : TypeId} (hown : w.ownsRow base e 2 (.slice (some ⟨h, 0, none⟩) n c) n (rr (P ++ [(f, q)]))) (hp : P.length = p) (hn : n = p + 1) (q' : Nat) : (w.setCell ⟨h, p * 2 + 1, none⟩ (.int .i64 (q' : Int))).ownsRow base e 2 (.slice (some ⟨h, 0, none⟩) n c) n (rr (P ++ [(f, q')])) := by
  refine ⟨by have := hown.1; simp only [rr_len, List.length_append] at *; exact this, ?_⟩
  rcases hown.2 with ⟨h0, _⟩ | ⟨g, cap, cur, e1, hb, hg, h1, h2, h3, h4⟩
  · cases h0
  · injection e1 with e1 e2 e3
    injection e1 with e1
    cases e1
    subst e3
    refine .inr ⟨h, c, _, rfl, hb, Bk.st (t := e) hg (p * 2 + 1) _, h1, h2, by simpa using h3, ?_⟩
    rw [Array.toList_setIfInBounds, List.take_set, h4]
    have e5 : rr (P ++ [(f, q)]) = rr P ++ [.int .i64 (f : Int), .int .i64 (q : Int)] := by rw [rr_app]; rfl
    have e6 : rr (P ++ [(f, q')]) = rr P ++ [.int .i64 (f : Int), .int .i64 (q' : Int)] := by rw [rr_app]; rfl
    rw [e5, e6, List.set_append_right _ _ (by rw [rr_len]; omega), rr_len, hp, show p * 2 + 1 - p * 2 = 1 by omega]
    rfl
theorem own_fz {w : World} {base h n c size : Nat} {xs : List Value} {e : TypeId} (hown : w.ownsRow base e size (.slice (some ⟨h, 0, none⟩) n c) n xs) (t : Nat) : w.frozen? ⟨h, t, none⟩ = false := by
  rcases hown.2 with ⟨h0, _⟩ | ⟨g, cap, cur, e1, hb, hg, _⟩
  · cases h0
  · injection e1 with e1 e2 e3
    injection e1 with e1
    cases e1
    exact Bk.fr (t := e) hg t
theorem own_form {w : World} {base n : Nat} {v : Value} {xs : List Value} {e : TypeId} {size : Nat} (h : w.ownsRow base e size v n xs) (hn : 0 < n) : ∃ g c, v = .slice (some ⟨g, 0, none⟩) n c ∧ n ≤ c ∧ base ≤ g := by
  rcases h.2 with ⟨_, h0⟩ | ⟨g, cap, cur, hv, hb, hg, h1, _⟩
  · omega
  · exact ⟨g, cap, hv, h1, hb⟩
theorem list_aprn (w : World) {ops : Array Oper} {rest : List Oper} {o : Oper} {a : Act} {Q : Exit → Act → World → Prop} (hgd : o.guard = none) (s x : Operand)
    (ho : o.op = .call { callee := .builtin .append, args := #[s, x], argTypes := #[108, 108] })
    (base : Nat) (v : Value) (n : Nat) (l : List (Nat × Nat)) (hs : a.eval s = v) (hown : w.ownsRow base 111 2 v n (rr l)) (g c : Nat) (p : Nat × Nat) (hx : a.eval x = .slice (some ⟨g, 0, none⟩) 1 c)
    (hM : Bk w g 111 #[.int .i64 (p.1 : Int), .int .i64 (p.2 : Int)]) (hn : n ≤ 100000) (hbase : base ≤ w.heap.size)
    (h : ∀ v' w', w'.ownsRow base 111 2 v' (n + 1) (rr (l ++ [p])) → w.grownBy w' v.ownBlock → (v'.ownBlock = v.ownBlock ∨ v'.ownBlock = some w.heap.size) → wpList Tryz.prog ops Q rest (a.put o.dst v') w') : wpList Tryz.prog ops Q (o :: rest) a w :=
  wpList_plain hgd fun _ hK => by
    obtain ⟨i0, hi0, hz0, hz1, hz2⟩ := info_parts info_run
    obtain ⟨v', w', hr, h2, h3, _, h5⟩ := run_append_own_at (P := Tryz.prog) w base 108 o.type 111 i0 (.agg #[.int .i64 0, .int .i64 0]) 2 16 Tryz.underlying108 hi0 hz0 hz1 hz2 (by rfl) (by omega) v n (rr l) hown ⟨g, 0, none⟩ 1 c (rr [p]) (by rfl) (by
      intro j u hu
      rw [add_row, Bk.cell (t := 111) hM j]
      have e : rr [p] = [.int .i64 (p.1 : Int), .int .i64 (p.2 : Int)] := rfl
      rw [e] at hu
      simpa using hu) (by intro u hu; simp [rr] at hu; rcases hu with rfl | rfl <;> rfl) (by unfold maxLen; omega) (by omega) hbase
    unfold Oper.wp execOp
    simp only [ho, resolve, invoke, builtin, Sem.run_bind, Sem.run_pure, Result.andThen_ok, List.map_toArray, List.map_cons, List.map_nil, hs, hx, hr]
    exact hK _ _ (h v' w' (by rw [rr_app]; exact h2) h3 h5)
end Go.Proofs.YtpbnabibnkohdaaGreatDoor.Se
namespace Go.Proofs.YtpbnabibnkohdaaGreatDoor.Se
open Go.ChangeShapes Go.WideShapes Go.RowKit Wo Sr Wi
set_option linter.unusedVariables false
end Go.Proofs.YtpbnabibnkohdaaGreatDoor.Se
namespace Go.Proofs.YtpbnabibnkohdaaGreatDoor.Se
open Go.ChangeShapes Go.WideShapes Go.RowKit Wo Sr Wi Sg By Cd
set_option linter.unusedVariables false
def ckt (p : Nat × Nat) (t : Nat) : List (Nat × Nat) := (List.range t).map fun t => (p.1 + 64 * t, min 64 (p.2 - 64 * t))
def ck (p : Nat × Nat) : List (Nat × Nat) := ckt p ((p.2 + 63) / 64)
theorem ckt_next (p : Nat × Nat) (t : Nat) : ckt p (t + 1) = ckt p t ++ [(p.1 + 64 * t, min 64 (p.2 - 64 * t))] := by simp [ckt, List.range_succ]
def pre (R : List (Nat × Nat)) (j : Nat) : List (Nat × Nat) := (R.take j).flatMap ck
theorem pre_next (R : List (Nat × Nat)) (j : Nat) (h : j < R.length) : pre R (j + 1) = pre R j ++ ck (fr R j, ct R j) := by
  unfold pre fr ct
  rw [List.take_add_one, List.flatMap_append, List.getD_eq_getElem?_getD, List.getElem?_eq_getElem h]
  simp
def cks (L : List Int) : List (Nat × Nat) := (rns L 0 0).flatMap ck
theorem pre_all (R : List (Nat × Nat)) : pre R R.length = R.flatMap ck := by unfold pre; rw [List.take_length]
def sgl (l : List (Nat × Value)) : List Value := l.flatMap fun p => [.int .i64 (p.1 : Int), p.2]
theorem sgl_cons (p : Nat × Value) (l : List (Nat × Value)) : sgl (p :: l) = .int .i64 (p.1 : Int) :: p.2 :: sgl l := rfl
theorem sgl_app (a b : List (Nat × Value)) : sgl (a ++ b) = sgl a ++ sgl b := by simp [sgl]
theorem sgl_at (l : List (Nat × Value)) (i : Nat) (h : i < l.length) : (sgl l)[i * 2]? = some (.int .i64 ((l.getD i (0, undef)).1 : Int)) ∧ (sgl l)[i * 2 + 1]? = some (l.getD i (0, undef)).2 := by
  induction l generalizing i with
  | nil => simp at h
  | cons p l ih =>
    rcases i with _ | i
    · exact ⟨rfl, rfl⟩
    · have := ih i (by simpa using h)
      rw [sgl_cons, show (i + 1) * 2 = i * 2 + 1 + 1 by omega]
      simpa using this
/-- a stored segment -/
def Sok (w : World) (L : List Int) (p : Nat × Nat) (u : Nat × Value) : Prop := u.1 = p.1 ∧ ∃ N, (seg ((L.drop p.1).take p.2)).length = N ∧ w.ownsRow 0 5 1 u.2 N (bys (seg ((L.drop p.1).take p.2)))
def Srl (w : World) (L : List Int) (cs : List (Nat × Nat)) (us : List (Nat × Value)) : Prop := us.length = cs.length ∧ ∀ j, j < cs.length → Sok w L (cs.getD j (0, 0)) (us.getD j (0, undef))
theorem Sok.bel {w w' : World} {L : List Int} {p : Nat × Nat} {u : Nat × Value} (h : Sok w L p u) (hb : Bel w w') : Sok w' L p u := by
  obtain ⟨h1, N, h2, h3⟩ := h
  exact ⟨h1, N, h2, own_bel h3 hb⟩
theorem Srl.bel {w w' : World} {L : List Int} {cs : List (Nat × Nat)} {us : List (Nat × Value)} (h : Srl w L cs us) (hb : Bel w w') : Srl w' L cs us := ⟨h.1, fun j hj => (h.2 j hj).bel hb⟩
theorem own_two {w : World} {b1 b2 n1 n2 s1 s2 : Nat} {e1 e2 : TypeId} {v1 v2 : Value} {xs ys : List Value} (h1 : w.ownsRow b1 e1 s1 v1 n1 xs) (h2 : w.ownsRow b2 e2 s2 v2 n2 ys) (hne : e1 ≠ e2) : v1.ownBlock = none ∨ v2.ownBlock ≠ v1.ownBlock := by
  rcases h1.2 with ⟨rfl, _⟩ | ⟨g1, c1, u1, rfl, _, k1, _⟩
  · exact .inl rfl
  · right
    rcases h2.2 with ⟨rfl, _⟩ | ⟨g2, c2, u2, rfl, _, k2, _⟩
    · intro e; cases e
    · intro e
      injection e with e
      subst e
      rw [k1] at k2
      injection k2 with k2
      injection k2 with _ k2
      exact hne k2
theorem Srl.kept {w w' : World} {L : List Int} {cs : List (Nat × Nat)} {us : List (Nat × Value)} {b n : Nat} {v : Value} {xs : List Value} (h : Srl w L cs us) (ho : w.ownsRow b 116 2 v n xs) (hg : w.grownBy w' v.ownBlock) : Srl w' L cs us := ⟨h.1, fun j hj => by
  obtain ⟨h1, N, h2, h3⟩ := h.2 j hj
  exact ⟨h1, N, h2, h3.kept hg ((own_two h3 ho (by decide)).imp id Ne.symm)⟩⟩
theorem Srl.snoc {w : World} {L : List Int} {cs : List (Nat × Nat)} {us : List (Nat × Value)} (h : Srl w L cs us) {p : Nat × Nat} {u : Nat × Value} (hu : Sok w L p u) : Srl w L (cs ++ [p]) (us ++ [u]) := ⟨by simp [h.1], fun j hj => by
  have hl := h.1
  rcases Nat.lt_or_ge j cs.length with hlt | hge
  · rw [List.getD_eq_getElem?_getD, List.getD_eq_getElem?_getD, List.getElem?_append_left hlt, List.getElem?_append_left (by omega)]
    have := h.2 j hlt
    rwa [List.getD_eq_getElem?_getD, List.getD_eq_getElem?_getD] at this
  · have : j = cs.length := by simp at hj; omega
    subst this
    rw [List.getD_eq_getElem?_getD, List.getD_eq_getElem?_getD, List.getElem?_append_right (by omega), List.getElem?_append_right (by omega), hl]
    simpa using hu⟩
theorem info_sg : (Tryz.prog.info? 116).map (fun i => (i.zero, i.size, i.bytes)) = some (some (.agg #[.int .i64 0, .slice none 0 0]), 2, 32) := by kernel_rfl
theorem sgl_len (l : List (Nat × Value)) : (sgl l).length = l.length * 2 := by
  induction l with
  | nil => rfl
  | cons p l ih => rw [sgl_cons, List.length_cons, List.length_cons, ih, List.length_cons]; omega
theorem list_apsg (w : World) {ops : Array Oper} {rest : List Oper} {o : Oper} {a : Act} {Q : Exit → Act → World → Prop} (hgd : o.guard = none) (s x : Operand)
    (ho : o.op = .call { callee := .builtin .append, args := #[s, x], argTypes := #[73, 73] })
    (base : Nat) (v : Value) (n : Nat) (l : List (Nat × Value)) (hs : a.eval s = v) (hown : w.ownsRow base 116 2 v n (sgl l)) (g c : Nat) (p : Nat × Value) (hp : p.2.oneCell' = true) (hx : a.eval x = .slice (some ⟨g, 0, none⟩) 1 c)
    (hM : Bk w g 116 #[.int .i64 (p.1 : Int), p.2]) (hn : n ≤ 100000) (hbase : base ≤ w.heap.size)
    (h : ∀ v' w', w'.ownsRow base 116 2 v' (n + 1) (sgl (l ++ [p])) → w.grownBy w' v.ownBlock → (v'.ownBlock = v.ownBlock ∨ v'.ownBlock = some w.heap.size) → wpList Tryz.prog ops Q rest (a.put o.dst v') w') : wpList Tryz.prog ops Q (o :: rest) a w :=
  wpList_plain hgd fun _ hK => by
    obtain ⟨i0, hi0, hz0, hz1, hz2⟩ := info_parts info_sg
    obtain ⟨v', w', hr, h2, h3, _, h5⟩ := run_append_own_at (P := Tryz.prog) w base 73 o.type 116 i0 (.agg #[.int .i64 0, .slice none 0 0]) 2 32 Tryz.underlying73 hi0 hz0 hz1 hz2 (by rfl) (by omega) v n (sgl l) hown ⟨g, 0, none⟩ 1 c (sgl [p]) (by rfl) (by
      intro j u hu
      rw [By.add_row, Bk.cell (t := 116) hM j]
      have e : sgl [p] = [.int .i64 (p.1 : Int), p.2] := rfl
      rw [e] at hu
      simpa using hu) (by intro u hu; simp [sgl] at hu; rcases hu with rfl | rfl; rfl; exact hp) (by unfold maxLen; omega) (by omega) hbase
    unfold Oper.wp execOp
    simp only [ho, resolve, invoke, builtin, Sem.run_bind, Sem.run_pure, Result.andThen_ok, List.map_toArray, List.map_cons, List.map_nil, hs, hx, hr]
    exact hK _ _ (h v' w' (by rw [sgl_app]; exact h2) h3 h5)
def Zsg (w : World) (A : Option Addr) (n : Nat) (us : List (Nat × Value)) : Prop := us.length = n ∧ (0 < n → ∃ g : Nat, A = some ⟨g, 0, none⟩ ∧ g < w.heap.size ∧ ∀ j, j < n → w.cell? ⟨g, j * 2, none⟩ = some (.int .i64 ((us.getD j (0, undef)).1 : Int)) ∧ w.cell? ⟨g, j * 2 + 1, none⟩ = some (us.getD j (0, undef)).2)
theorem Zsg.bel {w w' : World} {A : Option Addr} {n : Nat} {l : List (Nat × Value)} (h : Zsg w A n l) (hb : Bel w w') : Zsg w' A n l :=
  ⟨h.1, fun hn => by
    obtain ⟨ad, e, hx, hc⟩ := h.2 hn
    exact ⟨ad, e, by have := hb.size; omega, fun j hj => ⟨hb.kp (hc j hj).1, hb.kp (hc j hj).2⟩⟩⟩
theorem own_zsg {w : World} {base k : Nat} {v : Value} {l : List (Nat × Value)} (hr : w.ownsRow base 116 2 v k (sgl l)) (hk : l.length = k) : ∃ A c, v = .slice A k c ∧ Zsg w A k l := by
  rcases hr.2 with ⟨rfl, rfl⟩ | ⟨g, cap, cur, rfl, hb, hg, rest⟩
  · exact ⟨none, 0, rfl, hk, fun h => by omega⟩
  · refine ⟨_, cap, rfl, hk, fun hn => ⟨_, rfl, (hr.lt g rfl).2, fun j hj => ?_⟩⟩
    have e := sgl_at l j (by omega)
    have h1 := hr.cells (g := g) rfl _ _ e.1
    have h2 := hr.cells (g := g) rfl _ _ e.2
    rw [By.add_row] at h1 h2
    exact ⟨h1, h2⟩
theorem asc_ck {W : List Int} : ∀ (l : List (Nat × Nat)) (e : Int), Asc W e l → W.length ≤ 64 → l.flatMap ck = l
  | [], e, _, _ => rfl
  | r :: rs, e, h, hw => by
    rw [List.flatMap_cons, asc_ck rs _ h.2.2.2.2 hw]
    have h1 := h.2.1
    have h2 := h.2.2.1
    have e1 : (r.2 + 63) / 64 = 1 := by omega
    unfold ck
    rw [e1]
    have e2 : min 64 (r.2 - 64 * 0) = r.2 := by omega
    have e3 : ckt r 1 = [(r.1 + 64 * 0, min 64 (r.2 - 64 * 0))] := rfl
    rw [e3, e2]
    rfl
theorem cks_short {L : List Int} (h : L.length ≤ 64) : cks L = rns L 0 0 := asc_ck _ _ (asc_all L) h
theorem cut_facts {f k n c E : Nat} (hE : f + k = E) (h1 : 1 ≤ k) (h : f + k ≤ n) (hn : n ≤ 2000) (hc : n ≤ c) : IntKind.i64.wrap ((f : Int) + (k : Int)) = (E : Int) ∧ wrap64 ((f : Int) + (k : Int)) = (E : Int) ∧ (f : Int) ≤ (E : Int) ∧ (E : Int) ≤ (c : Int) ∧ ((c = f) = False) ∧ E - f = k := by
  have e : (f : Int) + (k : Int) = (E : Int) := by omega
  rw [e]
  exact ⟨IntWalk.i64_in _ (by omega), IntWalk.wrap64_in _ (by omega), by omega, by omega, by simp; omega, by omega⟩
/-- the samples of a piece -/
theorem piece_vx {L : List Int} {n f c t : Nat} (hs : Sv L) (hl : L.length = n) (hc : f + c ≤ n) (hp : ∀ j, j < c → L.getD (f + j) 0 ≠ 1073741824) (ht : 64 * t < c) : Vx ((L.drop (f + 64 * t)).take (min 64 (c - 64 * t))) := by
  have hlen : ((L.drop (f + 64 * t)).take (min 64 (c - 64 * t))).length = min 64 (c - 64 * t) := by simp; omega
  refine ⟨by rw [hlen]; omega, by rw [hlen]; omega, fun x hx => ?_⟩
  obtain ⟨j, hj, e⟩ := List.mem_iff_getElem.1 hx
  rw [hlen] at hj
  have e2 : L.getD (f + (64 * t + j)) 0 = x := by
    rw [← e, List.getD_eq_getElem?_getD, List.getElem?_eq_getElem (by omega)]
    simp [Nat.add_assoc]
  have h1 := hs.at (i := f + (64 * t + j)) (by omega)
  have h2 := hp (64 * t + j) (by omega)
  rw [e2] at h1 h2
  rcases h1 with h1 | h1
  · exact h1
  · exact absurd h1 h2
end Go.Proofs.YtpbnabibnkohdaaGreatDoor.Se
namespace Go.Proofs.YtpbnabibnkohdaaGreatDoor.Se
open Go.ChangeShapes Go.WideShapes Go.RowKit Wo Sr Wi Sg
set_option linter.unusedVariables false
def SomeStore (L : List Int) (w : World) (e : Ending) (w' : World) : Prop := ∃ (u : Value) (N : Nat) (us : List (Nat × Value)), e = .returned (.tuple #[u, .int .i64 0]) ∧ N = (cks L).length ∧ us.length = N ∧ w'.ownsRow w.heap.size 116 2 u N (sgl us) ∧ Srl w' L (cks L) us ∧ Bel w w'
theorem own_base0 {w : World} {B n : Nat} {e : TypeId} {v : Value} {xs : List Value} (h : w.ownsRow B e 1 v n xs) : w.ownsRow 0 e 1 v n xs := Sg.own_base h (Nat.zero_le _)
theorem t_big {k n f E t j N : Nat} (hE : f + k = E) (h : E ≤ n) (hn : n ≤ 2000) (ht : t ≤ (k + 63) / 64) (hN : N ≤ 40 * j + t) (hj : j ≤ 2000) : N ≤ 100000 := by omega
theorem t_next {t k : Nat} (h : 64 * t < k) : t + 1 ≤ (k + 63) / 64 := by omega
theorem t_end {f t k E a : Nat} (hE : f + k = E) (ha : f + 64 * t = a) (hae : E ≤ a) (ht : t ≤ (k + 63) / 64) : t = (k + 63) / 64 := by omega
theorem t_small {k n f E t j N : Nat} (hE : f + k = E) (h : E ≤ n) (hn : n ≤ 2000) (ht : t ≤ (k + 63) / 64) (hN : N ≤ 40 * j + t) : N ≤ 40 * (j + 1) := by omega
theorem v_next {f t a : Nat} (ha : f + 64 * t = a) : Value.int .i64 ((a : Int) + 64) = .int .i64 ((f + 64 * (t + 1) : Nat) : Int) := by
  subst ha
  congr 1
set_option maxHeartbeats 8000000 in
set_option maxRecDepth 100000 in
theorem store_ok (st sp : Int) (A : Option Addr) (n c : Nat) (L : List Int) (h : Sb st sp n) (hs : Sv L) (w : World) (hz : Vs w A n c L) :
    Calls Tryz.prog 36 #[.agg #[.int .i64 st, .int .i64 sp, .slice A n c]] w (SomeStore L w) := by
  have VA : Hid (∀ W, Zi W A n L → _) := fun W hW => valid_ok st sp A n c L h hs W hW
  have RU : Hid (∀ W, Zi W A n L → _) := fun W hW => runs_c st sp A n c L h hs W hW
  have HZ := Lib.hid hz
  have HSV := Lib.hid hs
  have HL := Lib.hid hz.1.1
  have ni : (n : Int) ≤ 2000 := by have := h.2.2.2.2; omega
  have hnc := hz.2.1
  have HK := Lib.hid (Bk.nw w 68 #[.int .i64 st, .int .i64 sp, .slice A n c])
  clear hs hz h
  go_enter Tryz.func36, Tryz.ntmps36
  go_wp2_with fail
  go_at_call 63
  refine (VA.out _ (HZ.out.1.bel (Bel.rf.al _))).mono ?_
  rintro e w2 ⟨rfl, hb2⟩
  have HK2 := Lib.hid (HK.out.bel hb2)
  have d0 : w2.cell? ⟨w.heap.size, 0, none⟩ = some (.int .i64 st) := HK2.out.cell 0
  have d1 : w2.cell? ⟨w.heap.size, 1, none⟩ = some (.int .i64 sp) := HK2.out.cell 1
  have d2 : w2.cell? ⟨w.heap.size, 2, none⟩ = some (.slice A n c) := HK2.out.cell 2
  have HB2 : Hid (Bel w w2) := (Bel.rf.al _).tr hb2
  clear hb2
  go_wp2_with fail
  go_at_call 64
  refine (RU.out _ (HZ.out.1.bel HB2.out)).mono ?_
  rintro e w3 ⟨A3, m, c3, rfl, hm, hz3, hb3⟩
  have HB3 : Hid (Bel w w3) := HB2.out.tr hb3
  have HK3 : Hid (Bk w3 w.heap.size 68 #[.int .i64 st, .int .i64 sp, .slice A n c]) := HK2.out.bel hb3
  have HAS : Hid (∀ t, t < m → 1 ≤ ct (rns L 0 0) t ∧ fr (rns L 0 0) t + ct (rns L 0 0) t ≤ n ∧ ∀ j, j < ct (rns L 0 0) t → L.getD (fr (rns L 0 0) t + j) 0 ≠ 1073741824) := fun t ht => by
    have h := asc_at (rns L 0 0) (-1) t (asc_all L) (by rw [← hm]; exact ht)
    rw [HL.out] at h
    refine ⟨h.2.2.1, h.2.2.2.1, fun j hj => ?_⟩
    have := h.2.2.2.2 j hj
    rwa [getD_two (by have := HL.out; have := h.2.2.2.1; omega)] at this
  have HML : Hid (m ≤ 2000) := by have := runs_len L; have := HL.out; show m ≤ 2000; omega
  have HCK : Hid (cks L = pre (rns L 0 0) m) := by show _ = _; rw [hm]; exact (pre_all _).symm
  have HPN : Hid (∀ j, j < m → pre (rns L 0 0) (j + 1) = pre (rns L 0 0) j ++ ck (fr (rns L 0 0) j, ct (rns L 0 0) j)) := fun j hj => pre_next _ j (by rw [← hm]; exact hj)
  obtain ⟨R, hR⟩ : ∃ R, rns L 0 0 = R := ⟨_, rfl⟩
  rw [hR] at HAS HCK HPN hz3
  have HZ3 := Lib.hid hz3
  have mi : (m : Int) ≤ 2000 := by have := HML.out; omega
  clear hm hR hz3 hb3 d0 d1 d2
  go_wp2
  go_loopw [4, 17] (fun s4 s17 wr => ∃ (j N : Nat) (us : List (Nat × Value)) (u : Value) (V : World), V = wr ∧ u = s4 ∧ j ≤ m ∧ s17 = .int .i64 (j : Int) ∧ us.length = N ∧ N ≤ 40 * j ∧ wr.ownsRow w3.heap.size 116 2 u N (sgl us) ∧ Srl wr L (pre R j) us ∧ Bel w3 wr) (fun s4 s17 _ => m - (intOf s17).toNat)
  case atStart => exact ⟨0, 0, [], _, _, rfl, rfl, by omega, rfl, rfl, by omega, World.ownsRow_nil _ _ _ _, ⟨rfl, fun j hj => (by simp [pre] at hj)⟩, by first | exact Bel.rf | exact Bel.rf.drw | exact Bel.rf.drwN _⟩
  case round =>
    obtain ⟨j, N, us, u, wr, hwr, hu, hj, rfl, hN, hN2, hown, hsr, hb⟩ := hrel
    subst hwr
    subst hu
    have HO := Lib.hid hown
    have HS := Lib.hid hsr
    have HB := Lib.hid hb
    have HN := Lib.hid hN
    rcases Nat.lt_or_ge j m with hlt | hge
    · obtain ⟨Q, rfl, hql, hqc⟩ := (HZ3.out.bel hb).2 (by omega)
      have hfk := HAS.out j hlt
      have hpn := HPN.out j hlt
      have c1 := (hqc j hlt).1
      have c2 := (hqc j hlt).2
      obtain ⟨f, hf⟩ : ∃ f, fr R j = f := ⟨_, rfl⟩
      obtain ⟨k, hk⟩ : ∃ f, ct R j = f := ⟨_, rfl⟩
      obtain ⟨E, hE⟩ : ∃ E, f + k = E := ⟨_, rfl⟩
      rw [hf, hk] at hfk hpn
      rw [hf] at c1
      rw [hk] at c2
      have HFK := Lib.hid (And.intro hfk (And.intro hpn hE))
      have EN : E ≤ n := hE ▸ hfk.2.1
      have EI : (f : Int) + (k : Int) = (E : Int) := by omega
      have Eb : (E : Int) ≤ 2000 := by omega
      have e1 : IntKind.i64.wrap ((f : Int) + (k : Int)) = (E : Int) := by rw [EI]; exact IntWalk.i64_in _ (by omega)
      have e2 : wrap64 ((f : Int) + (k : Int)) = (E : Int) := by rw [EI]; exact IntWalk.wrap64_in _ (by omega)
      have ji : (j : Int) < (m : Int) := by omega
      clear hown hsr hb hN hql hqc hf hk hfk hpn hE EI Eb
      go_wp2
      go_loopw [4, 8] (fun s4 s8 W => ∃ (t N : Nat) (us : List (Nat × Value)) (u : Value) (V : World), V = W ∧ u = s4 ∧ s8 = .int .i64 ((f + 64 * t : Nat) : Int) ∧ t ≤ (k + 63) / 64 ∧ us.length = N ∧ N ≤ 40 * j + t ∧ W.ownsRow w3.heap.size 116 2 u N (sgl us) ∧ Srl W L (pre R j ++ ckt (f, k) t) us ∧ Bel w3 W) (fun s4 s8 _ => E + 64 - (intOf s8).toNat)
      case atStart => exact ⟨0, N, us, _, _, rfl, rfl, by simp, by omega, HN.out, by omega, own_bel HO.out (by first | exact Bel.rf.al _ | exact (Bel.rf.al _).drwN _), by first | exact (by simpa [ckt] using HS.out.bel (Bel.rf.al _)) | exact (by simpa [ckt] using HS.out.bel ((Bel.rf.al _).drwN _)), by first | exact HB.out.al _ | exact (HB.out.al _).drwN _⟩
      case round =>
        obtain ⟨t, N2, us2, u2, W, hW, hu2, rfl, ht, hN3, hN4, ho2, hs2, hb2⟩ := hrel
        subst hW
        subst hu2
        have HO2 := Lib.hid ho2
        have HS2 := Lib.hid hs2
        have HB2' := Lib.hid hb2
        have HN3 := Lib.hid (And.intro hN3 hN4)
        obtain ⟨a, ha⟩ : ∃ a, f + 64 * t = a := ⟨_, rfl⟩
        rw [ha]
        rcases Nat.lt_or_ge a E with hae | hae
        · obtain ⟨h, rfl⟩ : ∃ h, A = some ⟨h, 0, none⟩ := by
            rcases HZ.out.2.2 with ⟨_, h0⟩ | h0
            · omega
            · exact h0
          obtain ⟨b, hbe⟩ : ∃ b, min (a + 64) E = b := ⟨_, rfl⟩
          obtain ⟨M, hM⟩ : ∃ M, min 64 (k - 64 * t) = M := ⟨_, rfl⟩
          obtain ⟨hf1, hf2, hf3⟩ := HFK.out
          have htk : 64 * t < k := by omega
          have hbM : b = a + M := by omega
          have hM1 : 1 ≤ M ∧ M ≤ 64 := by omega
          have hv := piece_vx (t := t) HSV.out HL.out hf1.2.1 hf1.2.2 htk
          have hz := zi_part ((HZ.out.1.bel (HB3.out.tr hb2))) a M (by omega)
          rw [ha, hM] at hv
          have hxl : ((L.drop a).take M).length = M := by have := HL.out; simp; omega
          have HEN : Hid (∀ V, Bel W V → _) := fun V hV => enc_ok h a (c - a) M _ hv hxl V (hz.bel hV)
          have HX := Lib.hid (And.intro hv hxl)
          obtain ⟨x, hx⟩ : ∃ x, (L.drop a).take M = x := ⟨_, rfl⟩
          rw [hx] at HEN HX
          have HXX := Lib.hid (And.intro hx (And.intro ha (And.intro hM (And.intro hbe (And.intro htk ht)))))
          have d2 : W.cell? ⟨w.heap.size, 2, none⟩ = some (.slice (some ⟨h, 0, none⟩) n c) := (HK3.out.bel hb2).cell 2
          have a64 : (a : Int) ≤ 2000 := by omega
          have bi : min ((a : Int) + 64) (E : Int) = (b : Int) := by omega
          have ab : (a : Int) ≤ (b : Int) := by omega
          have bc : (b : Int) ≤ (c : Int) := by omega
          have ai : (a : Int) < (E : Int) := by omega
          have ac : (c = a) = False := by simp; omega
          have ba : b - a = M := by omega
          have aw : IntKind.i64.wrap ((a : Int) + 64) = (a : Int) + 64 := IntWalk.i64_in _ (by omega)
          have aw2 : wrap64 ((a : Int) + 64) = (a : Int) + 64 := IntWalk.wrap64_in _ (by omega)
          clear ho2 hs2 hb2 hN3 hN4 ha hbe hM hf1 hf2 hf3 htk ht hv hz hxl hx hbM
          go_wp2_with fail
          go_at_call 65
          refine (HEN.out _ (by first | exact Bel.rf | exact Bel.rf.drwN _)).mono ?_
          rintro e V ⟨uE, rfl, hoE, hbE⟩
          have HBE : Hid (Bel W V) := by first | exact hbE | exact (Bel.rf.drwN _).tr hbE
          obtain ⟨NE, hNE⟩ : ∃ N, (seg x).length = N := ⟨_, rfl⟩
          have hNl := (seg_len HX.out.1).1
          rw [hNE] at hNl hoE
          obtain ⟨g1, q1, rfl, hq1, hqm, hq0, hrd⟩ := own_rd hoE (seg_byte HX.out.1) hNE (by omega)
          have HOE : Hid (V.ownsRow 0 5 1 (.slice (some ⟨g1, 0, none⟩) NE q1) NE (By.bys (seg x))) := own_base0 hoE
          have HNE := Lib.hid hNE
          have hNb : N2 ≤ 100000 := t_big HFK.out.2.2 EN (by omega) HXX.out.2.2.2.2.2 HN3.out.2 (by omega)
          have HNB := Lib.hid hNb
          have HS3 : Hid (Srl (V.alloc (.cells #[.int .i64 (a : Int), .slice (some ⟨g1, 0, none⟩) NE q1] 116)) L (pre R j ++ ckt (f, k) t) us2) := (HS2.out.bel HBE.out).bel (Bel.rf.al _)
          have HO3 : Hid ((V.alloc (.cells #[.int .i64 (a : Int), .slice (some ⟨g1, 0, none⟩) NE q1] 116)).ownsRow w3.heap.size 116 2 u2 N2 (sgl us2)) := own_bel HO2.out (HBE.out.al _)
          have HE3 : Hid ((V.alloc (.cells #[.int .i64 (a : Int), .slice (some ⟨g1, 0, none⟩) NE q1] 116)).ownsRow 0 5 1 (.slice (some ⟨g1, 0, none⟩) NE q1) NE (By.bys (seg x))) := own_bel HOE.out (Bel.rf.al _)
          have HTW := Lib.hid (own_two HE3.out HO3.out (by decide))
          clear hoE hbE hNE hNl hq1 hqm hq0 hrd hNb
          go_wp2_with (at_builtin; refine list_apsg _ rfl (.tmp 48) (.tmp 52) rfl w3.heap.size _ _ _ rfl (own_bel HO2.out (HBE.out.al _)) V.heap.size 1 (a, .slice (some ⟨g1, 0, none⟩) NE q1) rfl rfl (Bk.nw _ _ _) HNB.out (by have := (HB2'.out.tr HBE.out).size; simp; omega) ?_; intro v' w9 h9 hg9 hat9; have H9 := Lib.hid (And.intro h9 (And.intro hg9 hat9)); clear h9 hg9 hat9)
          go_roundw
          case rel =>
            obtain ⟨x1, x2, x3, x4, x5, x6⟩ := HXX.out
            refine ⟨t + 1, N2 + 1, us2 ++ [(a, .slice (some ⟨g1, 0, none⟩) NE q1)], _, _, rfl, rfl, v_next x2, t_next x5, by simp [HN3.out.1], by have := HN3.out.2; clear aw aw2 bi; omega, H9.out.1, ?_, bel_grown (HB2'.out.tr (HBE.out.al _)) H9.out.2.1 (own_base HO2.out)⟩
            have hlt : (a, M) = (f + 64 * t, min 64 (k - 64 * t)) := by rw [x2, x3]
            rw [ckt_next, ← List.append_assoc, ← hlt]
            have hs9 := HS3.out.kept HO3.out H9.out.2.1
            refine hs9.snoc ⟨rfl, NE, by rw [x1]; exact HNE.out, ?_⟩
            rw [x1]
            exact HE3.out.kept H9.out.2.1 (HTW.out.imp id Ne.symm)
          case measure => simp [intOf]; clear aw aw2 bi; omega
        · obtain ⟨hf1, hf2, hf3⟩ := HFK.out
          have hte := t_end hf3 ha hae ht
          have HTE := Lib.hid hte
          have HTS := Lib.hid (t_small hf3 EN (by omega) ht hN4)
          have ai : ¬ (a : Int) < (E : Int) := by omega
          clear ho2 hs2 hb2 hN3 hN4 ha hf1 hf2 hf3 hte ht
          go_wp2
          go_roundw
          case rel =>
            refine ⟨j + 1, N2, us2, _, _, rfl, rfl, by omega, by go_num, HN3.out.1, HTS.out, HO2.out, ?_, HB2'.out⟩
            have h9 := HS2.out
            rw [HTE.out] at h9
            rw [HFK.out.2.1]
            exact h9
          case measure => simp [intOf]; omega
    · obtain rfl : j = m := by omega
      clear hown hsr hb hN
      go_wp2
      go_ret2
      have h9 := HS.out
      rw [← HCK.out] at h9
      exact ⟨_, N, us, rfl, by rw [← HN.out]; exact h9.1, HN.out, own_lo HO.out HB3.out.size, h9, HB3.out.tr HB.out⟩
end Go.Proofs.YtpbnabibnkohdaaGreatDoor.Se
namespace Go.Proofs.YtpbnabibnkohdaaGreatDoor.Se
open Go.ChangeShapes Go.WideShapes Go.RowKit Wo Sr Wi Sg
set_option linter.unusedVariables false
/-- from E on: gaps and then the pieces of l, in order -/
def Tl (W : List Int) : Nat → List (Nat × Nat) → Prop
  | E, [] => E ≤ W.length ∧ ∀ q, E ≤ q → q < W.length → W.getD q 1073741824 = 1073741824
  | E, p :: l => E ≤ p.1 ∧ (∀ q, E ≤ q → q < p.1 → W.getD q 1073741824 = 1073741824) ∧ 1 ≤ p.2 ∧ p.1 + p.2 ≤ W.length ∧ (∀ j, j < p.2 → W.getD (p.1 + j) 1073741824 ≠ 1073741824) ∧ Tl W (p.1 + p.2) l
theorem tl_from (W : List Int) : ∀ (vs : List Int) (i c E : Nat), W.drop i = vs → W.length = i + vs.length → c ≤ i → (∀ q, i - c ≤ q → q < i → W.getD q 1073741824 ≠ 1073741824) → E ≤ i - c → (∀ q, E ≤ q → q < i - c → W.getD q 1073741824 = 1073741824) → Tl W E (rns vs i c)
  | [], i, c, E, hd, hl, hc, hp, hE, hg => by
    have hl : W.length = i := by simpa using hl
    unfold rns
    by_cases h : 0 < c
    · rw [if_pos h]
      refine ⟨hE, hg, h, by omega, fun j hj => hp _ (by omega) (by omega), ?_⟩
      exact ⟨by omega, fun q h1 h2 => by omega⟩
    · rw [if_neg h]
      exact ⟨by omega, fun q h1 h2 => hg q h1 (by omega)⟩
  | v :: vs, i, c, E, hd, hl, hc, hp, hE, hg => by
    have hl : W.length = i + 1 + vs.length := by simp at hl; omega
    have hil : i < W.length := by omega
    have hv : W.getD i 1073741824 = v := by
      rw [List.getD_eq_getElem?_getD, List.getElem?_eq_getElem hil]
      rw [List.drop_eq_getElem_cons hil] at hd
      injection hd
    have hd2 : W.drop (i + 1) = vs := by
      rw [List.drop_eq_getElem_cons hil] at hd
      injection hd
    unfold rns
    by_cases hvm : v = 1073741824
    · rw [if_pos hvm]
      by_cases h : 0 < c
      · rw [if_pos h]
        refine ⟨hE, hg, h, by show i - c + c ≤ _; omega, fun j hj => hp _ (by show _ ≤ i - c + j; omega) (by show i - c + j < i; have : j < c := hj; omega), ?_⟩
        have e : i - c + c = i := by omega
        show Tl W (i - c + c) _
        rw [e]
        refine tl_from W vs (i + 1) 0 i hd2 hl (by omega) (fun q h1 h2 => by omega) (by omega) (fun q h1 h2 => ?_)
        rw [show q = i by omega, hv]; exact hvm
      · rw [if_neg h]
        refine tl_from W vs (i + 1) 0 E hd2 hl (by omega) (fun q h1 h2 => by omega) (by omega) (fun q h1 h2 => ?_)
        rcases Nat.lt_or_ge q i with h3 | h3
        · exact hg q h1 (by omega)
        · rw [show q = i by omega, hv]; exact hvm
    · rw [if_neg hvm]
      refine tl_from W vs (i + 1) (c + 1) E hd2 hl (by omega) (fun q h1 h2 => ?_) (by omega) (fun q h1 h2 => hg q h1 (by omega))
      rcases Nat.lt_or_ge q i with h3 | h3
      · exact hp q (by omega) h3
      · rw [show q = i by omega, hv]; exact hvm
theorem tl_runs (W : List Int) : Tl W 0 (rns W 0 0) := tl_from W W 0 0 0 rfl (by omega) (by omega) (fun q h1 h2 => by omega) (by omega) (fun q h1 h2 => by omega)
theorem tl_ckt (W : List Int) (f c : Nat) (rest : List (Nat × Nat)) (hc : f + c ≤ W.length) (hp : ∀ j, j < c → W.getD (f + j) 1073741824 ≠ 1073741824) (hr : Tl W (f + c) rest) :
    ∀ d t : Nat, t + d = (c + 63) / 64 → 1 ≤ t → Tl W (f + min (64 * t) c) (((List.range' t d).map fun t => (f + 64 * t, min 64 (c - 64 * t))) ++ rest)
  | 0, t, ht, h1 => by
    have e : min (64 * t) c = c := by omega
    rw [e]; exact hr
  | d + 1, t, ht, h1 => by
    have htc : 64 * t < c := by omega
    have ih := tl_ckt W f c rest hc hp hr d (t + 1) (by omega) (by omega)
    rw [List.range'_succ]
    refine ⟨by show _ ≤ f + 64 * t; omega, fun q h2 h3 => by have h3 : q < f + 64 * t := h3; omega, by show 1 ≤ min 64 (c - 64 * t); omega, by show f + 64 * t + min 64 (c - 64 * t) ≤ _; omega, fun j hj => ?_, ?_⟩
    · have hj : j < min 64 (c - 64 * t) := hj
      show W.getD (f + 64 * t + j) _ ≠ _
      rw [Nat.add_assoc]
      exact hp _ (by omega)
    · have e : f + 64 * t + min 64 (c - 64 * t) = f + min (64 * (t + 1)) c := by omega
      show Tl W (f + 64 * t + min 64 (c - 64 * t)) _
      rw [e]; exact ih
theorem tl_cks (W : List Int) : ∀ (l : List (Nat × Nat)) (E : Nat), Tl W E l → Tl W E (l.flatMap ck)
  | [], E, h => h
  | p :: l, E, ⟨h1, h2, h3, h4, h5, h6⟩ => by
    have ih := tl_cks W l _ h6
    rw [List.flatMap_cons]
    obtain ⟨d, hd⟩ : ∃ d, (p.2 + 63) / 64 = d + 1 := ⟨(p.2 + 63) / 64 - 1, by omega⟩
    have e : ck p = (p.1, min 64 p.2) :: ((List.range' 1 d).map fun t => (p.1 + 64 * t, min 64 (p.2 - 64 * t))) := by
      unfold ck ckt
      rw [hd, List.range_eq_range', List.range'_succ]
      rfl
    rw [e]
    refine ⟨h1, h2, by show 1 ≤ min 64 p.2; omega, by show p.1 + min 64 p.2 ≤ _; omega, fun j hj => h5 j (by have hj : j < min 64 p.2 := hj; omega), ?_⟩
    have := tl_ckt W p.1 p.2 (l.flatMap ck) h4 h5 ih d 1 (by omega) (by omega)
    rw [show 64 * 1 = 64 from rfl] at this
    exact this
theorem tl_all (L : List Int) : Tl L 0 (cks L) := tl_cks L _ 0 (tl_runs L)
/-- where the piece before the j-th ends -/
def en (l : List (Nat × Nat)) : Nat → Nat
  | 0 => 0
  | t + 1 => fr l t + ct l t
theorem tl_at {W : List Int} : ∀ (l : List (Nat × Nat)) (E t : Nat), Tl W E l → t < l.length → (t = 0 → E ≤ fr l 0 ∧ ∀ q, E ≤ q → q < fr l 0 → W.getD q 1073741824 = 1073741824) ∧ (∀ u, t = u + 1 → fr l u + ct l u ≤ fr l t ∧ ∀ q, fr l u + ct l u ≤ q → q < fr l t → W.getD q 1073741824 = 1073741824) ∧ 1 ≤ ct l t ∧ fr l t + ct l t ≤ W.length ∧ ∀ j, j < ct l t → W.getD (fr l t + j) 1073741824 ≠ 1073741824
  | [], E, t, _, ht => by simp at ht
  | r :: rs, E, 0, h, ht => ⟨fun _ => ⟨h.1, h.2.1⟩, fun u hu => by omega, h.2.2.1, h.2.2.2.1, h.2.2.2.2.1⟩
  | r :: rs, E, t + 1, h, ht => by
    have ih := tl_at rs (r.1 + r.2) t h.2.2.2.2.2 (by simpa using ht)
    refine ⟨fun h0 => by omega, fun u hu => ?_, ih.2.2.1, ih.2.2.2.1, ih.2.2.2.2⟩
    have : u = t := by omega
    subst this
    rcases u with _ | u
    · exact ih.1 rfl
    · exact ih.2.1 u rfl
theorem tl_end {W : List Int} : ∀ (l : List (Nat × Nat)) (E : Nat), Tl W E l → l ≠ [] → en l l.length ≤ W.length ∧ ∀ q, en l l.length ≤ q → q < W.length → W.getD q 1073741824 = 1073741824
  | [r], E, h, _ => h.2.2.2.2.2
  | r :: r' :: rs, E, h, _ => by
    have := tl_end (r' :: rs) (r.1 + r.2) h.2.2.2.2.2 (by simp)
    exact this
/-- a piece: where it lies, what is missing ahead of it -/
theorem piece_at {L : List Int} {t : Nat} (ht : t < (cks L).length) : en (cks L) t ≤ fr (cks L) t ∧ (∀ q, en (cks L) t ≤ q → q < fr (cks L) t → L.getD q 1073741824 = 1073741824) ∧ 1 ≤ ct (cks L) t ∧ fr (cks L) t + ct (cks L) t ≤ L.length ∧ ∀ j, j < ct (cks L) t → L.getD (fr (cks L) t + j) 1073741824 ≠ 1073741824 := by
  have h := tl_at (cks L) 0 t (tl_all L) ht
  rcases t with _ | t
  · exact ⟨(h.1 rfl).1, (h.1 rfl).2, h.2.2⟩
  · exact ⟨(h.2.1 t rfl).1, (h.2.1 t rfl).2, h.2.2⟩
theorem piece_end (L : List Int) : en (cks L) (cks L).length ≤ L.length ∧ ∀ q, en (cks L) (cks L).length ≤ q → q < L.length → L.getD q 1073741824 = 1073741824 := by
  rcases h : cks L with _ | ⟨r, rs⟩
  · have := tl_all L
    rw [h] at this
    exact this
  · have := tl_end (cks L) 0 (tl_all L) (by rw [h]; simp)
    rw [h] at this
    exact this
theorem ckt_sum (p : Nat × Nat) : ∀ t, ((ckt p t).map Prod.snd).sum = min (64 * t) p.2
  | 0 => by simp [ckt]
  | t + 1 => by
    rw [ckt_next, List.map_append, List.sum_append, ckt_sum p t]
    simp
    omega
theorem cks_sum (L : List Int) : ((cks L).map Prod.snd).sum = cnt L := by
  have h : ∀ l : List (Nat × Nat), ((l.flatMap ck).map Prod.snd).sum = (l.map Prod.snd).sum := by
    intro l
    induction l with
    | nil => rfl
    | cons p l ih =>
      rw [List.flatMap_cons, List.map_append, List.sum_append, ih, List.map_cons, List.sum_cons]
      unfold ck
      rw [ckt_sum]
      omega
  unfold cks
  rw [h, rns_sum]
  omega
theorem ckt_le (p : Nat × Nat) (t : Nat) : ∀ q ∈ ckt p t, q.2 ≤ 64 := by
  intro q hq
  obtain ⟨u, _, rfl⟩ := List.mem_map.1 hq
  show min 64 _ ≤ 64
  omega
theorem cks_le {L : List Int} {t : Nat} (ht : t < (cks L).length) : ct (cks L) t ≤ 64 := by
  have hm : (cks L).getD t (0, 0) ∈ cks L := by rw [List.getD_eq_getElem?_getD, List.getElem?_eq_getElem ht]; exact List.getElem_mem ht
  obtain ⟨p, _, hp⟩ := List.mem_flatMap.1 hm
  exact ckt_le p _ _ hp
/-- what has been loaded when the pieces up to E stand -/
def ld (L : List Int) (E : Nat) : List Int := L.take E ++ List.replicate (L.length - E) 1073741824
theorem ld_zero (L : List Int) : ld L 0 = List.replicate L.length 1073741824 := by simp [ld]
theorem ld_len {L : List Int} {E : Nat} (h : E ≤ L.length) : (ld L E).length = L.length := by simp [ld]; omega
theorem ld_gap {L : List Int} {E f : Nat} (hE : E ≤ f) (hf : f ≤ L.length) (hg : ∀ q, E ≤ q → q < f → L.getD q 1073741824 = 1073741824) : ld L E = ld L f := by
  apply List.ext_getElem?
  intro i
  unfold ld
  rcases Nat.lt_or_ge i E with h | h
  · rw [List.getElem?_append_left (by simp; omega), List.getElem?_append_left (by simp; omega), List.getElem?_take_of_lt h, List.getElem?_take_of_lt (by omega)]
  · rcases Nat.lt_or_ge i f with h2 | h2
    · have := hg i h h2
      rw [List.getD_eq_getElem?_getD, List.getElem?_eq_getElem (by omega)] at this
      rw [List.getElem?_append_right (by simp; omega), List.getElem?_replicate, if_pos (by rw [List.length_take]; omega), List.getElem?_append_left (by simp; omega), List.getElem?_take_of_lt h2, List.getElem?_eq_getElem (show i < L.length by omega)]
      exact congrArg some this.symm
    · rw [List.getElem?_append_right (by simp; omega), List.getElem?_append_right (by simp; omega)]
      rw [List.getElem?_replicate, List.getElem?_replicate]
      by_cases h3 : i < L.length
      · rw [if_pos (by simp; omega), if_pos (by simp; omega)]
      · rw [if_neg (by simp; omega), if_neg (by simp; omega)]
theorem ld_next {L : List Int} {f m : Nat} (h : f + m ≤ L.length) : splice (ld L f) f ((L.drop f).take m) = ld L (f + m) := by
  apply List.ext_getElem?
  intro i
  unfold ld splice
  have l1 : ((L.drop f).take m).length = m := by simp; omega
  rcases Nat.lt_or_ge i f with h1 | h1
  · rw [List.getElem?_append_left (by simp; omega), List.getElem?_take_of_lt h1, List.getElem?_append_left (by simp; omega), List.getElem?_append_left (by simp; omega), List.getElem?_take_of_lt h1, List.getElem?_take_of_lt (by omega)]
  · rcases Nat.lt_or_ge i (f + m) with h2 | h2
    · rw [List.getElem?_append_right (by simp; omega), List.getElem?_append_left (by simp; omega), List.getElem?_append_left (by simp; omega), List.getElem?_take_of_lt h2]
      simp
      rw [List.getElem?_take_of_lt (by omega)]
      simp
      congr 1
      omega
    · have lz : (List.take f L ++ List.replicate (L.length - f) 1073741824).length = L.length := by simp; omega
      have lt : (List.take f (List.take f L ++ List.replicate (L.length - f) 1073741824)).length = f := by rw [List.length_take, lz]; omega
      have lf : (List.take f L).length = f := by rw [List.length_take]; omega
      have lg : (List.take (f + m) L).length = f + m := by rw [List.length_take]; omega
      rw [List.getElem?_append_right (by omega), List.getElem?_append_right (by omega), List.getElem?_drop, l1, lt, List.getElem?_append_right (by omega), List.getElem?_append_right (by omega), lf, lg, List.getElem?_replicate, List.getElem?_replicate]
      by_cases h3 : i < L.length
      · rw [if_pos (by omega), if_pos (by omega)]
      · rw [if_neg (by omega), if_neg (by omega)]
end Go.Proofs.YtpbnabibnkohdaaGreatDoor.Se
namespace Go.Proofs.YtpbnabibnkohdaaGreatDoor.Se
open Go.ChangeShapes Go.WideShapes Go.RowKit Wo Sr Wi Sg
set_option linter.unusedVariables false
theorem wr_both {x : Int} {y : Nat} (h : x = (y : Int)) (hb : y ≤ 100000) : wrap64 x = (y : Int) ∧ IntKind.i64.wrap x = (y : Int) := by
  rw [h]
  exact ⟨IntWalk.wrap64_in _ (by omega), IntWalk.i64_in _ (by omega)⟩
end Go.Proofs.YtpbnabibnkohdaaGreatDoor.Se
namespace Go.Proofs.YtpbnabibnkohdaaGreatDoor.Se
open Go.ChangeShapes Go.WideShapes Go.RowKit Wo Sr Wi Sg
set_option linter.unusedVariables false
theorem ch_setRow {g : Nat} (w : World) (cs : Array Value) : Ch g w (w.setRow g cs) :=
  ⟨rfl, rfl, rfl, by simp [World.setRow], fun k hk hn => setRow_other w g k cs (fun e => hn (by rw [e]))⟩
/-- a copy in a region that draws its order: only the row has changed -/
theorem step_copy_ch {P : Program} {ops : Array Oper} {o : Oper} {a : Act} {w : World} {K : Act → World → Prop} {Q : Exit → Act → World → Prop} {E : Prop} (hgd : o.guard = none) (d s : Operand) (dT sT : TypeId)
    (ho : o.op = .call { callee := .builtin .copy, args := #[d, s], argTypes := #[dT, sT] }) (elem : TypeId) (hu : P.underlying dT = some (.slice elem)) (hsz : (P.info? elem).map (·.size) = some 1)
    (g off dLen dCap : Nat) (ad : Addr) (sLen sCap : Nat) (hd : a.eval d = .slice (some ⟨g, off, none⟩) dLen dCap) (hs : a.eval s = .slice (some ad) sLen sCap)
    (cur : List Value) (t : TypeId) (hg : w.heap[g]? = some (.cells cur.toArray t (0, 0))) (cs : List Value) (hn : cs.length = Nat.min sLen dLen)
    (hsrc : ∀ j v, cs[j]? = some v → w.cell? (ad.add j) = some v) (hfit : off + cs.length ≤ cur.length) (h1 : ∀ v ∈ cs, v.oneCell' = true)
    (h : ∀ w', Bk w' g t (splice cur off cs).toArray → Ch g w w' → K (a.put o.dst (goInt cs.length)) w') :
    if Region.wanted o (yielded ops a.tmps) = true then Oper.wp P o a w K Q else E := by
  rw [if_pos (by simp [Region.wanted, hgd])]
  have hrun := run_copy_row (P := P) w dT sT o.type elem g off dLen dCap ad sLen sCap cur.toArray t cs hu hsz hg hn hsrc (by simpa using hfit) h1
  unfold Oper.wp
  simp [execOp, ho, resolve, invoke, builtin, hd, hs, hrun, Result.andThen]
  exact h _ (show _ = _ by simpa [splice] using setRow_heap w g _ _ t _ hg) (ch_setRow w _)
def SomeRepB (x : Int) (k : Nat) (w : World) (e : Ending) (w' : World) : Prop := ∃ a, e = .returned (.slice (some ⟨a, 0, none⟩) k k) ∧ w.heap.size ≤ a ∧ (0 < k → Bk w' a 3 (zs (List.replicate k x)).toArray) ∧ Bel w w'
theorem repeat_b (g : Nat) (x : Int) (k : Nat) (k2 : k ≤ 300) (w : World) (hc : w.cell? ⟨g, 0, none⟩ = some (.int .i64 x)) :
    Calls Tryz.prog 66 #[.slice (some ⟨g, 0, none⟩) 1 1, .int .i64 (k : Int)] w (SomeRepB x k w) := by
  rcases Nat.eq_zero_or_pos k with h | h
  · subst h
    refine (repeat_zero g x w hc).mono ?_
    rintro e w' ⟨a, rfl, ha, _, hb⟩
    exact ⟨a, rfl, ha, fun h => by omega, hb⟩
  · refine (repeat_ok g x k h k2 w hc).mono ?_
    rintro e w' ⟨rfl, hk, hb⟩
    exact ⟨w.heap.size, rfl, Nat.le_refl _, fun _ => hk, hb⟩
set_option maxHeartbeats 8000000 in
set_option maxRecDepth 100000 in
theorem load_ok (st sp : Int) (n : Nat) (L : List Int) (h : Sb st sp n) (hs : Sv L) (hl : L.length = n) (n200 : n ≤ 200) (A3 : Option Addr) (c3 N : Nat) (us : List (Nat × Value)) (hN : N = (cks L).length) (w : World) (hz : Zsg w A3 N us) (hsr : Srl w L (cks L) us) :
    Calls Tryz.prog 37 #[.slice A3 N c3, .int .i64 st, .int .i64 sp, .int .i64 (n : Int)] w fun e w' => ∃ a, e = .returned (.tuple #[.agg #[.int .i64 st, .int .i64 sp, .slice (some ⟨a, 0, none⟩) n n], .int .i64 0]) ∧ Zi w' (some ⟨a, 0, none⟩) n L ∧ Bel w w' := by
  have HS := Lib.hid h
  have ni : (n : Int) ≤ 200 := by omega
  have HZ := Lib.hid hz
  have HSR := Lib.hid hsr
  have HL := Lib.hid hl
  have HN := Lib.hid hN
  have HQ0 := Lib.hid (Bk.nw w 68 #[.int .i64 0, .int .i64 0, .slice none 0 0])
  clear hz hsr hl hN h
  go_enter Tryz.func37, Tryz.ntmps37
  go_wp2_with fail
  go_at_call 66
  refine (repeat_b (w.heap.size + 1) 1073741824 n (by omega) _ (by first | exact (Bk.nw _ _ _).cell 0 | exact (Bk.nq _ _ _ (g := w.heap.size + 1) (by simp)).cell 0)).mono ?_
  rintro e w2 ⟨a, rfl, ha, hk, hb2⟩
  have ha2 : w.heap.size + 2 ≤ a := by simp at ha; omega
  have HB2 : Hid (Bel w w2) := ((Bel.rf.al _).al _).tr hb2
  have HQ2 : Hid (Bk w2 w.heap.size 68 #[.int .i64 0, .int .i64 0, .slice none 0 0]) := (HQ0.out.al _).bel hb2
  have HK2 := Lib.hid hk
  have hal : 0 < n → a < w2.heap.size := fun hn => (hk hn).lt
  have HAL := Lib.hid hal
  have hzr : Zi w2 (some ⟨a, 0, none⟩) n (List.replicate n 1073741824) := by
    rcases Nat.eq_zero_or_pos n with h0 | h0
    · subst h0; exact zi_none
    · exact zi_bk (hk h0) n (by simp)
  have VA : Hid (∀ W, Bel w2 W → _) := fun W hW => valid_ok st sp (some ⟨a, 0, none⟩) n n (List.replicate n 1073741824) HS.out (Sv.rep n) W (hzr.bel hW)
  have HKS := Lib.hid (Bk.nw w2 68 #[.int .i64 st, .int .i64 sp, .slice (some ⟨a, 0, none⟩) n n])
  have hsz2 : w.heap.size + 2 ≤ w2.heap.size := by have := hb2.size; simp at this; omega
  obtain ⟨b, hab, hbl, hbg⟩ : ∃ b, (0 < n → a = b) ∧ b < w2.heap.size ∧ w.heap.size + 1 ≤ b := by
    rcases Nat.eq_zero_or_pos n with h0 | h0
    · exact ⟨w.heap.size + 1, fun h => by omega, by omega, by omega⟩
    · exact ⟨a, fun _ => rfl, hal h0, by omega⟩
  have HAB := Lib.hid hab
  clear ha hk hb2 hal hzr hab
  go_wp2_with fail
  go_at_call 63
  refine (VA.out _ (Bel.rf.al _)).mono ?_
  rintro e w4 ⟨rfl, hb4⟩
  have HB4 : Hid (Bel w2 w4) := (Bel.rf.al _).tr hb4
  have HQ4 : Hid (Bk w4 w.heap.size 68 #[.int .i64 0, .int .i64 0, .slice none 0 0]) := HQ2.out.bel HB4.out
  have HS4 : Hid (Bk w4 w2.heap.size 68 #[.int .i64 st, .int .i64 sp, .slice (some ⟨a, 0, none⟩) n n]) := HKS.out.bel hb4
  have HK4 : Hid (0 < n → Bk w4 a 3 (zs (List.replicate n 1073741824)).toArray) := fun hn => (HK2.out hn).bel HB4.out
  have HN2 : Hid (N ≤ 2000) := by
    have h1 : ∀ t, t ≤ N → t ≤ en (cks L) t := fun t => by
      induction t with
      | zero => intro _; exact Nat.zero_le _
      | succ t ih =>
        intro h
        have h2 := ih (by omega)
        have h3 := piece_at (L := L) (t := t) (by rw [← HN.out]; omega)
        show t + 1 ≤ fr (cks L) t + ct (cks L) t
        omega
    have h2 := h1 N (Nat.le_refl _)
    have h3 := (piece_end L).1
    rw [← HN.out] at h3
    have := HL.out
    show N ≤ 2000
    omega
  have Ni : (N : Int) ≤ 2000 := by have := HN2.out; omega
  clear hb4
  go_wp2
  go_loopw [11, 35] (fun s11 s35 wr => ∃ (j : Nat) (V : World), V = wr ∧ j ≤ N ∧ s35 = .int .i64 (j : Int) ∧ s11 = .int .i64 (en (cks L) j : Int) ∧ Ch b w4 wr ∧ (0 < n → Bk wr b 3 (zs (ld L (en (cks L) j))).toArray)) (fun s11 s35 _ => N - (intOf s35).toNat)
  case atStart => exact ⟨0, _, rfl, Nat.zero_le _, rfl, rfl, by first | exact Ch.rf | exact Ch.rf.drw | exact Ch.rf.drwN _, fun hn => by show Bk _ b _ (zs (ld L 0)).toArray; rw [ld_zero, HL.out, ← HAB.out hn]; first | exact HK4.out hn | exact (HK4.out hn).drw | exact (HK4.out hn).drwN _⟩
  case round =>
    obtain ⟨j, wr, hwr, hj, rfl, rfl, hch, hbk⟩ := hrel
    subst hwr
    have HC := Lib.hid hch
    have HB := Lib.hid hbk
    have HBW : Hid (Bel w wr) := Bel.ch (HB2.out.tr HB4.out) hch (by omega)
    rcases Nat.lt_or_ge j N with hlt | hge
    · have hbw := HBW.out
      obtain ⟨P, rfl, hpl, hpc⟩ := (HZ.out.bel hbw).2 (by omega)
      have p1 := (hpc j hlt).1
      have p2 := (hpc j hlt).2
      have hjc : j < (cks L).length := by rw [← HN.out]; exact hlt
      obtain ⟨q1, N1, q2, q3⟩ := (HSR.out.2 j hjc).bel hbw
      obtain ⟨g1, g2, g3, g4, g5⟩ := piece_at hjc
      have g6 := cks_le hjc
      have q1' : (us.getD j (0, undef)).1 = fr (cks L) j := q1
      have q2' : (seg ((L.drop (fr (cks L) j)).take (ct (cks L) j))).length = N1 := q2
      have q3' : wr.ownsRow 0 5 1 (us.getD j (0, undef)).2 N1 (By.bys (seg ((L.drop (fr (cks L) j)).take (ct (cks L) j)))) := q3
      rw [q1'] at p1
      have HEN : Hid (en (cks L) (j + 1) = fr (cks L) j + ct (cks L) j) := rfl
      obtain ⟨f, hf⟩ : ∃ f, fr (cks L) j = f := ⟨_, rfl⟩
      obtain ⟨m, hm⟩ : ∃ m, ct (cks L) j = m := ⟨_, rfl⟩
      obtain ⟨E, hE⟩ : ∃ E, en (cks L) j = E := ⟨_, rfl⟩
      obtain ⟨U, hU⟩ : ∃ U, (us.getD j (0, undef)).2 = U := ⟨_, rfl⟩
      rw [hf, hm] at HEN
      rw [hE] at hbk g1 g2 ⊢
      rw [hU] at p2 q3'
      rw [hf] at p1 g1 g2
      rw [hf, hm] at g4 g5 q2' q3'
      rw [hm] at g3 g6
      rw [HL.out] at g4
      have n1 : 0 < n := by omega
      obtain rfl : a = b := HAB.out n1
      have hbk1 := hbk n1
      have hlg : ld L E = ld L f := ld_gap g1 (by rw [HL.out]; omega) g2
      rw [hlg] at hbk1
      have hv : Vx ((L.drop f).take m) := by
        have h9 := piece_vx (t := 0) hs HL.out g4 (fun i hi => by have := g5 i hi; rwa [getD_two (by rw [HL.out]; omega)] at this) (by omega)
        rwa [show f + 64 * 0 = f by omega, show min 64 (m - 64 * 0) = m by omega] at h9
      have hN1 := (seg_len hv).1
      have hN2 := (seg_len hv).2.1
      rw [q2'] at hN1 hN2
      obtain ⟨h1, c1, rfl, hc1, hcm, _, hrd⟩ := own_rd q3' (seg_byte hv) q2' (by omega)
      have hsp := ld_next (L := L) (f := f) (m := m) (by rw [HL.out]; exact g4)
      obtain ⟨x, hx⟩ : ∃ x, (L.drop f).take m = x := ⟨_, rfl⟩
      have hxl : x.length = m := by rw [← hx]; have := HL.out; simp; omega
      rw [hx] at hv hrd hsp
      have HDC : Hid (∀ W, Bel wr W → _) := fun W hW => dec_any (some ⟨h1, 0, none⟩) c1 N1 (seg x) (by omega) hc1 hcm W (hrd.bel hW)
      have HX := Lib.hid (And.intro hv (And.intro hxl (And.intro hsp HEN.out)))
      have HBK := Lib.hid hbk1
      have hkt := HC.out.bk HS4.out (by omega)
      have HKT := Lib.hid hkt
      have HSG := Lib.hid (Bk.nw wr 116 #[.int .i64 (f : Int), .slice (some ⟨h1, 0, none⟩) N1 c1])
      have ji : (j : Int) < (N : Int) := Int.ofNat_lt.2 hlt
      have HG := Lib.hid (And.intro g1 (And.intro g3 (And.intro g4 g6)))
      have HLF : Hid ((ld L f).length = n) := by show _ = _; rw [ld_len (by rw [HL.out]; omega)]; exact HL.out
      clear hbw hpl hpc hjc q1 q2 q3 q1' q2' q3' g1 g2 g3 g4 g5 g6 hf hm hE hU hbk hbk1 hlg hv hN1 hN2 hc1 hcm hrd hsp hx hxl hkt hch HEN HB
      go_wp2_with fail
      go_at_call 67
      refine (HDC.out _ (by repeat (first | exact Bel.rf | (with_reducible refine Bel.drwN ?_ _) | (with_reducible refine Bel.drw ?_) | (with_reducible refine Bel.al ?_ _)))).mono ?_
      rintro e v6 ⟨A6, n6, c6, L6, er, rfl, hz6, h61, h62, h63, h64, h65, hb6, _, _, hx6⟩
      obtain ⟨her, hLx⟩ := hx6 x HX.out.1 rfl
      subst her hLx
      have HB6 : Hid (Bel wr v6) := by first | exact (Bel.rf.al _).tr hb6 | exact ((Bel.rf.al _).drwN _).tr hb6
      have hn6 := hz6.1
      obtain rfl : n6 = m := by have := HX.out.2.1; omega
      obtain ⟨ad, rfl, had, hac⟩ := hz6.2 (by have := HG.out; omega)
      have HZ6 := Lib.hid (zi_news hz6)
      have hsg : Bk v6 wr.heap.size 116 #[.int .i64 (f : Int), .slice (some ⟨h1, 0, none⟩) N1 c1] := by first | exact HSG.out.bel hb6 | exact (HSG.out.drwN _).bel hb6
      have s0 : v6.cell? ⟨wr.heap.size, 0, none⟩ = some (.int .i64 (f : Int)) := hsg.cell 0
      have t2 : v6.cell? ⟨w2.heap.size, 2, none⟩ = some (.slice (some ⟨a, 0, none⟩) n n) := (HKT.out.bel HB6.out).cell 2
      have sl := hsg.lt
      have HA6 : Hid (Bk v6 a 3 (zs (ld L f)).toArray) := HBK.out.bel HB6.out
      have al := HA6.out.lt
      obtain ⟨u1, u2, u3, u4⟩ := HG.out
      have i1 : ¬ (f : Int) < (E : Int) := by omega
      have i2 : (n : Int) - (n6 : Int) = ((n - n6 : Nat) : Int) := by omega
      have i3 : ¬ ((n - n6 : Nat) : Int) < (f : Int) := by omega
      have i4 : (f : Int) ≤ (n : Int) := by omega
      have i5 : (n = f) = False := by simp; omega
      have i6 : (f : Int) + (n6 : Int) = ((f + n6 : Nat) : Int) := by omega
      have i7 : Nat.min n6 (n - f) = n6 := Nat.min_eq_left (by omega)
      have HI := Lib.hid (And.intro i6 i7)
      clear hb6 hx6 hz6 h61 h62 h63 h64 h65 hn6 had hac hsg u1 u2 u3 u4 i6 i7
      have HMN : Hid ((zs L6).length = Nat.min n6 (n - f)) := by show _ = _; rw [zs_len, HX.out.2.1, HI.out.2]
      have HFT : Hid (f + (zs L6).length ≤ (zs (ld L f)).length) := by show _ ≤ _; rw [zs_len, zs_len, HX.out.2.1, HLF.out]; exact HG.out.2.2.1
      have hzl : (zs L6).length = n6 := by rw [zs_len, HX.out.2.1]
      have HSRC : Hid (∀ W, Bel v6 W → ∀ j u, (zs L6)[j]? = some u → W.cell? (ad.add j) = some u) := fun W hW j u hu => hW.kp (HZ6.out j u hu)
      obtain ⟨E2, hE2⟩ : ∃ E2, f + n6 = E2 := ⟨_, rfl⟩
      have HE2 := Lib.hid hE2
      have i6 : (f : Int) + (n6 : Int) = (E2 : Int) := by omega
      have e2b : E2 ≤ 100000 := by have := HG.out; omega
      have HW := Lib.hid (wr_both (x := (E2 : Int)) rfl e2b)
      have HZL := Lib.hid hzl
      clear hE2 e2b hzl i6
      have HNE : Hid ((⟨wr.heap.size, 0, none⟩ : Addr).block ≠ a) := by
        show wr.heap.size ≠ a
        have k1 := HB4.out.size
        have k2 := HC.out.sz
        omega
      have HS0 := Lib.hid s0
      go_wp2
      go_region_law (refine step_copy_ch rfl (.tmp 68) (.tmp 69) 22 22 rfl 3 Tryz.underlying22 size_int a f (n - f) (n - f) ad n6 c6 (by simp [Act.eval, Act.put]) (by simp [Act.eval, Act.put]) (zs (ld L f)) 3 (HA6.out.bel (by repeat (first | exact Bel.rf | (with_reducible refine Bel.drwN ?_ _) | (with_reducible refine Bel.drw ?_) | (with_reducible refine Bel.al ?_ _)))) (zs L6) HMN.out (HSRC.out _ (by repeat (first | exact Bel.rf | (with_reducible refine Bel.drwN ?_ _) | (with_reducible refine Bel.drw ?_) | (with_reducible refine Bel.al ?_ _)))) HFT.out (zs_one _) ?_; intro w7 hk7 hc7; have s7 : w7.cell? ⟨wr.heap.size, 0, none⟩ = some (.int .i64 (f : Int)) := Ch.kp hc7 (Bel.kp (by repeat (first | exact Bel.rf | (with_reducible refine Bel.drwN ?_ _) | (with_reducible refine Bel.drw ?_) | (with_reducible refine Bel.al ?_ _))) HS0.out) HNE.out)
      all_goals
        rw [splice_zs, HX.out.2.2.1, HE2.out] at hk7
        have H7 : Hid (Ch a w4 w7) := (HC.out.tr (Ch.of_bel HB6.out)).tr (by first | exact hc7 | exact (Ch.rf.drwN _).tr hc7 | exact (Ch.rf.drw).tr hc7)
        have HK7 := Lib.hid hk7
        clear hk7 hc7
        have i6 : (f : Int) + (n6 : Int) = (E2 : Int) := by have := HE2.out; omega
        have hzl := HZL.out
        obtain ⟨i7, i8⟩ := HW.out
        (try simp only [hzl, i6, i8])
        (try go_simp)
        clear i7 i8 i6
        go_wp2
        go_roundw
        case rel => exact ⟨j + 1, _, rfl, hlt, by go_num, by rw [HX.out.2.2.2, HE2.out], H7.out, fun _ => by rw [HX.out.2.2.2, HE2.out]; exact HK7.out⟩
        case measure => simp [intOf]; omega
    · obtain rfl : j = N := by omega
      have hkq := HC.out.bk HQ4.out (by omega)
      have hkt := HC.out.bk HS4.out (by omega)
      have HKQ := Lib.hid hkq
      have q0 := hkq.cell 0
      have q1 := hkq.cell 1
      have q2 := hkq.cell 2
      have f0 := hkq.fr 0
      have f1 := hkq.fr 1
      have f2 := hkq.fr 2
      have ql := hkq.lt
      have t0 := hkt.cell 0
      have t1 := hkt.cell 1
      have t2 := hkt.cell 2
      have tl := hkt.lt
      have hfin : Zi wr (some ⟨a, 0, none⟩) n L := by
        rcases Nat.eq_zero_or_pos n with h0 | h0
        · have := HL.out
          subst h0
          obtain rfl : L = [] := List.eq_nil_of_length_eq_zero this
          exact zi_none
        · have h2 := hbk h0
          have h3 := piece_end L
          rw [← HN.out] at h3
          rw [ld_gap h3.1 (Nat.le_refl _) h3.2] at h2
          have h4 : ld L L.length = L := by simp [ld]
          rw [h4, ← HAB.out h0] at h2
          exact zi_bk h2 n HL.out
      have HF := Lib.hid hfin
      clear hch hbk hkq hkt hfin
      go_wp2
      refine bodyPost_ret (v := .tuple #[.agg #[.int .i64 st, .int .i64 sp, .slice (some ⟨a, 0, none⟩) n n], .int .i64 0]) (results_s2 Tryz.results37 _ _ w.heap.size _ _ _ rfl (((HKQ.out.st 0 _).st 1 _).st 2 _)) rfl ?_
      have hf : ∀ ad, (some ⟨a, 0, none⟩ : Option Addr) = some ad → ad.block ≠ w.heap.size := fun ad e => by cases e; show a ≠ w.heap.size; omega
      have HV9 : Vs wr (some ⟨a, 0, none⟩) n n L := ⟨HF.out, Nat.le_refl _, .inr ⟨_, rfl⟩⟩
      exact ⟨a, rfl, (((HV9.far (q := ⟨w.heap.size, 0, none⟩) hf _).far (q := ⟨w.heap.size, 1, none⟩) hf _).far (q := ⟨w.heap.size, 2, none⟩) hf _).1, ((HBW.out.st (p := ⟨w.heap.size, 0, none⟩) (Nat.le_refl _) _).st (p := ⟨w.heap.size, 1, none⟩) (Nat.le_refl _) _).st (p := ⟨w.heap.size, 2, none⟩) (Nat.le_refl _) _⟩
end Go.Proofs.YtpbnabibnkohdaaGreatDoor.Se
namespace Go.Proofs.YtpbnabibnkohdaaGreatDoor.Tp
open Go.ChangeShapes Go.WideShapes Go.RowKit Wo Sr Wi
open Rm (Rp tm vl)
open Rg (rs Zr own_zr gv Gv vals)
open Rt (Ut Zu raw run lns lns_line lns_nil parse_go GoodU)
open Un (Pows Pows.bel low_lit)
open Se (Sb Sv Vs store_ok load_ok own_zsg SomeStore)
set_option linter.unusedVariables false
def txr : List UInt8 := [48, 32, 49, 32, 114, 97, 119, 10, 49, 48, 32, 51, 32, 114, 97, 119, 10, 50, 48, 32, 50, 32, 114, 97, 119, 10]
theorem txr_run : run [raw] (lns txr) 1 [] = ([(0, 1), (10, 3), (20, 2)], 0, 0) := by
  have e : lns txr = [[48, 32, 49, 32, 114, 97, 119], [49, 48, 32, 51, 32, 114, 97, 119], [50, 48, 32, 50, 32, 114, 97, 119]] := by
    rw [show txr = [48, 32, 49, 32, 114, 97, 119] ++ 10 :: ([49, 48, 32, 51, 32, 114, 97, 119] ++ 10 :: ([50, 48, 32, 50, 32, 114, 97, 119] ++ 10 :: [])) from rfl, lns_line _ _ (by decide), lns_line _ _ (by decide), lns_line _ _ (by decide), lns_nil]
  rw [e]
  decide
theorem raw_good : ∀ u ∈ [raw], GoodU u := by
  intro u hu
  rw [List.mem_singleton] at hu
  subst hu
  exact ⟨low_lit (by decide) (by decide) (by decide), by decide, by decide, by decide, by decide, by decide, by decide⟩
theorem txr_asc : Rm.Asc [(0, 1), (10, 3), (20, 2)] := by
  refine ⟨fun i hi => ?_, fun i hi => ?_⟩
  · rcases (by simp at hi; omega : i = 0 ∨ i = 1 ∨ i = 2) with rfl | rfl | rfl <;> decide
  · rcases (by simp at hi; omega : i = 0 ∨ i = 1) with rfl | rfl <;> decide
theorem txr_vals : vals [(0, 1), (10, 3), (20, 2)] 0 10 1 0 3 = [1, 3, 2] := by decide
theorem txr_gv : Gv 0 10 ((3 : Nat) : Int) 1 0 := by unfold Gv; decide
theorem txr_sv : Sv [1, 3, 2] := by unfold Sv; decide
theorem txr_sb : Sb 0 10 3 := by unfold Sb; decide
theorem txr_prof : Eu.prof [3, 2] [1, 3, 2] 2 2 = [5, 0] := by decide
set_option maxHeartbeats 8000000 in
set_option maxRecDepth 100000 in
theorem running_any (w : World) (hP : Pows w) : Calls Tryz.prog 13 #[] w fun e w' => e = .returned (.bool true) ∧ Bel w w' := by
  have HP := Lib.hid hP
  have HU : Hid (Zu (w.alloc (.cells #[.string ⟨#[114, 97, 119]⟩, .int .i64 1, .int .i64 0, .int .i64 1] 65)) w.heap.size [raw]) := by
    refine ⟨by simp, fun j u hu => ?_⟩
    have hb := Bk.nw w 65 #[.string ⟨#[114, 97, 119]⟩, .int .i64 1, .int .i64 0, .int .i64 1]
    rcases j with _ | j
    · cases hu
      exact ⟨by rw [hb.cell]; rfl, by rw [hb.cell]; rfl, by rw [hb.cell]; rfl, by rw [hb.cell]; rfl⟩
    · cases hu
  clear hP
  go_enter Tryz.func13, Tryz.ntmps13
  go_wp2_with fail
  go_at_call 34
  refine (parse_go ⟨#[48, 32, 49, 32, 114, 97, 119, 10, 49, 48, 32, 51, 32, 114, 97, 119, 10, 50, 48, 32, 50, 32, 114, 97, 119, 10]⟩ (by decide) [raw] raw_good (by decide) 1 1 w.heap.size rfl (by decide) _ HU.out (HP.out.bel (Bel.rf.al _))).mono ?_
  rintro e w1 ⟨l, k, er, v, hr, rfl, hown, hb1⟩
  have hr2 : run [raw] (lns txr) 1 [] = (l, k, er) := hr
  rw [txr_run] at hr2
  cases hr2
  obtain ⟨A, ca, rfl, hz⟩ := own_zr hown rfl
  have HB1 : Hid (Bel w w1) := (Bel.rf.al _).tr hb1
  have HZ := Lib.hid hz
  clear hr hown hb1 hz HU
  go_wp2_with fail
  go_at_call 35
  refine (Rg.apply_ok A ca 3 [(0, 1), (10, 3), (20, 2)] (by decide) txr_asc 0 10 1 0 3 txr_gv w1 HZ.out).mono ?_
  rintro e w2 ⟨gq, rfl, hgq, hbk, hb2⟩
  rw [txr_vals] at hbk
  have HB2 : Hid (Bel w w2) := HB1.out.tr hb2
  have HV : Hid (Zi w2 (some ⟨gq, 0, none⟩) 3 [1, 3, 2]) := zi_bk hbk 3 rfl
  clear hbk hb2 hgq
  go_wp2_with fail
  go_at_call 36
  refine (store_ok 0 10 (some ⟨gq, 0, none⟩) 3 3 [1, 3, 2] txr_sb txr_sv _ ⟨HV.out.bel (Bel.rf.al _), Nat.le_refl _, .inr ⟨gq, rfl⟩⟩).mono ?_
  rintro e w3 ⟨u, N, us, rfl, hN, hus, hown3, hsr, hb3⟩
  obtain ⟨A3, c3, rfl, hz3⟩ := own_zsg hown3 hus
  have HB3 : Hid (Bel w w3) := (HB2.out.al _).tr hb3
  have HLD := Lib.hid (load_ok 0 10 3 [1, 3, 2] txr_sb txr_sv rfl (by decide) A3 c3 N us hN w3 hz3 hsr)
  clear hN hus hown3 hsr hb3 hz3
  go_wp2_with fail
  go_at_call 37
  refine HLD.out.mono ?_
  rintro e w4 ⟨a, rfl, hz4, hb4⟩
  have HB4 : Hid (Bel w w4) := HB3.out.tr hb4
  have HZ4 := Lib.hid hz4
  clear hz4 hb4 HLD
  go_wp2_with fail
  go_at_call 38
  have hq : Zi ((w4.alloc (.cells #[.int .i64 0, .int .i64 10, .slice (some ⟨a, 0, none⟩) 3 3] 68)).alloc (.cells #[.int .i64 3, .int .i64 2] 3)) (some ⟨w4.heap.size + 1, 0, none⟩) 2 [3, 2] := zi_bk (Bk.nq _ 3 (zs [3, 2]).toArray (by simp)) 2 rfl
  refine (Eu.profile_ok (some ⟨w4.heap.size + 1, 0, none⟩) 2 2 a 3 3 2 [3, 2] [1, 3, 2] (by decide) (by decide) (by decide) (by decide) (by decide) (by decide) (by unfold Sam; decide) (by unfold Sam; decide) _ hq ((HZ4.out.bel (Bel.rf.al _)).bel (Bel.rf.al _))).mono ?_
  rintro e w5 ⟨v5, rfl, hown5, hb5⟩
  rw [txr_prof] at hown5
  have HB5 : Hid (Bel w w5) := ((HB4.out.al _).al _).tr hb5
  obtain ⟨A5, c5, rfl, hz5, _⟩ := row_zi hown5 rfl
  have HZ5 := Lib.hid hz5
  clear hown5 hb5 hz5 hq
  go_wp2_with fail
  go_at_call 39
  refine (ints_same A5 _ c5 2 2 [5, 0] (by decide) _ (HZ5.out.bel (Bel.rf.al _)) (zi_bk (Bk.nw _ 3 (zs [5, 0]).toArray) 2 rfl)).mono ?_
  rintro e w6 ⟨rfl, hb6⟩
  go_wp2
  go_ret
  exact ⟨rfl, (HB5.out.al _).tr hb6⟩
end Go.Proofs.YtpbnabibnkohdaaGreatDoor.Tp
namespace Go.Proofs.YtpbnabibnkohdaaGreatDoor.Tp
open Go.ChangeShapes Go.WideShapes Go.RowKit Wo Sr Wi
open Se (Tl cks tl_all)
set_option linter.unusedVariables false
/-- the sum of what is not missing -/
def nm (l : List Int) : Int := (l.map fun x => if x = 1073741824 then 0 else x).sum
theorem nm_app (a b : List Int) : nm (a ++ b) = nm a + nm b := by unfold nm; rw [List.map_append, List.sum_append]
theorem nm_zero : ∀ (l : List Int), (∀ x ∈ l, x = 1073741824) → nm l = 0
  | [], _ => rfl
  | x :: l, h => by
    have h1 := nm_zero l (fun y hy => h y (by simp [hy]))
    have h2 := h x (by simp)
    unfold nm at h1 ⊢
    rw [List.map_cons, List.sum_cons, h1, if_pos h2]; rfl
theorem nm_all : ∀ (l : List Int), (∀ x ∈ l, x ≠ 1073741824) → nm l = l.sum
  | [], _ => rfl
  | x :: l, h => by
    have h1 := nm_all l (fun y hy => h y (by simp [hy]))
    have h2 := h x (by simp)
    unfold nm at h1 ⊢
    rw [List.map_cons, List.sum_cons, h1, if_neg h2, List.sum_cons]
theorem nm_snoc (l : List Int) (x : Int) : nm (l ++ [x]) = nm l + (if x = 1073741824 then 0 else x) := by
  rw [nm_app]; congr 1; simp [nm]
theorem mem_part {W : List Int} {E k : Nat} {x : Int} (h : x ∈ (W.drop E).take k) : ∃ j, j < k ∧ E + j < W.length ∧ x = W.getD (E + j) 1073741824 := by
  obtain ⟨j, hj, e⟩ := List.mem_iff_getElem.1 h
  have h1 : j < k ∧ E + j < W.length := by rw [List.length_take, List.length_drop] at hj; omega
  refine ⟨j, h1.1, h1.2, ?_⟩
  rw [← e, List.getElem_take, List.getElem_drop, List.getD_eq_getElem?_getD, List.getElem?_eq_getElem h1.2]; rfl
/-- the sums of the pieces -/
def psum (W : List Int) (l : List (Nat × Nat)) : Int := (l.map fun p => ((W.drop p.1).take p.2).sum).sum
theorem tl_nm {W : List Int} : ∀ (l : List (Nat × Nat)) (E : Nat), Tl W E l → nm (W.drop E) = psum W l
  | [], E, h => by
    show _ = 0
    refine nm_zero _ (fun x hx => ?_)
    obtain ⟨j, hj, e⟩ := List.mem_iff_getElem.1 hx
    rw [List.length_drop] at hj
    rw [List.getElem_drop] at e
    have := h.2 (E + j) (by omega) (by omega)
    rw [List.getD_eq_getElem?_getD, List.getElem?_eq_getElem (by omega)] at this
    rw [← e]; exact this
  | p :: l, E, ⟨h1, h2, h3, h4, h5, h6⟩ => by
    have ih := tl_nm l _ h6
    have e1 : W.drop E = (W.drop E).take (p.1 - E) ++ W.drop p.1 := by
      have := (List.take_append_drop (p.1 - E) (W.drop E)).symm
      rwa [List.drop_drop, show E + (p.1 - E) = p.1 by omega] at this
    have e2 : W.drop p.1 = (W.drop p.1).take p.2 ++ W.drop (p.1 + p.2) := by
      have := (List.take_append_drop p.2 (W.drop p.1)).symm
      rwa [List.drop_drop] at this
    have z1 : nm ((W.drop E).take (p.1 - E)) = 0 := nm_zero _ (fun x hx => by
      obtain ⟨j, hj, hl, e⟩ := mem_part hx
      rw [e]; exact h2 (E + j) (by omega) (by omega))
    have z2 : nm ((W.drop p.1).take p.2) = ((W.drop p.1).take p.2).sum := nm_all _ (fun x hx => by
      obtain ⟨j, hj, hl, e⟩ := mem_part hx
      rw [e]; exact h5 j hj)
    rw [e1, nm_app, z1, e2, nm_app, z2, ih]
    unfold psum
    rw [List.map_cons, List.sum_cons, Int.zero_add]
theorem psum_all (L : List Int) : psum L (cks L) = nm L := by
  have := tl_nm (cks L) 0 (tl_all L)
  rw [List.drop_zero] at this
  exact this.symm
theorem psum_take (L : List Int) (cs : List (Nat × Nat)) (t : Nat) (h : t < cs.length) : psum L (cs.take (t + 1)) = psum L (cs.take t) + ((L.drop (cs.getD t (0, 0)).1).take (cs.getD t (0, 0)).2).sum := by
  unfold psum
  rw [List.take_succ_eq_append_getElem h, List.map_append, List.sum_append]
  simp [List.getD_eq_getElem?_getD, h]
theorem nm_take (L : List Int) (t : Nat) (h : t < L.length) : nm (L.take (t + 1)) = nm (L.take t) + (if L.getD t 0 = 1073741824 then 0 else L.getD t 0) := by
  rw [List.take_succ_eq_append_getElem h, nm_snoc]
  simp [List.getD_eq_getElem?_getD, h]
theorem nm_bd {L : List Int} (h : Se.Sv L) : ∀ j, j ≤ L.length → -(1000 * (j : Int)) ≤ nm (L.take j) ∧ nm (L.take j) ≤ 1000 * (j : Int)
  | 0, _ => by simp [nm]
  | j + 1, hj => by
    have ih := nm_bd h j (by omega)
    rw [nm_take L j (by omega)]
    have hx : L.getD j 0 ∈ L := by
      rw [List.getD_eq_getElem?_getD, List.getElem?_eq_getElem (by omega)]
      exact List.getElem_mem _
    have := h _ hx
    split <;> omega
theorem sum_bd : ∀ (l : List Int), (∀ x ∈ l, -1000 ≤ x ∧ x ≤ 1000) → -(1000 * (l.length : Int)) ≤ l.sum ∧ l.sum ≤ 1000 * (l.length : Int)
  | [], _ => by simp
  | x :: l, h => by
    have ih := sum_bd l (fun y hy => h y (by simp [hy]))
    have := h x (by simp)
    rw [List.sum_cons, List.length_cons]
    omega
theorem ps_bd {L : List Int} (cs : List (Nat × Nat)) (hb : ∀ t, t < cs.length → -64000 ≤ ((L.drop (cs.getD t (0, 0)).1).take (cs.getD t (0, 0)).2).sum ∧ ((L.drop (cs.getD t (0, 0)).1).take (cs.getD t (0, 0)).2).sum ≤ 64000) : ∀ j, j ≤ cs.length → -(64000 * (j : Int)) ≤ psum L (cs.take j) ∧ psum L (cs.take j) ≤ 64000 * (j : Int)
  | 0, _ => by simp [psum]
  | j + 1, hj => by
    have ih := ps_bd cs hb j (by omega)
    have := hb j (by omega)
    rw [psum_take L cs j (by omega)]
    omega
/-- what is laid -/
def Lt (w : World) : Prop := Un.Pows w
theorem lt_of {W : World} (h : laidMetH Tryz.prog [("math/bits.deBruijn32tab", Rows.laid_math_bits_deBruijn32tab), ("math/bits.deBruijn64tab", Rows.laid_math_bits_deBruijn64tab), ("internal/strconv.uint64pow10", Rows.laid_internal_strconv_uint64pow10), ("unicode/utf8.acceptRanges", Rows.laid_unicode_utf8_acceptRanges), ("strconv.ErrRange", Rows.laid_strconv_ErrRange), ("strconv.ErrSyntax", Rows.laid_strconv_ErrSyntax), ("shapesearch/unit.powers", Rows.laid_shapesearch_unit_powers), ("unicode/utf8.first", Rows.laid_unicode_utf8_first)] W) : Lt W := by
  rw [MakeChecks.laidMetH_plain _ _ _ (by kernel_rfl)] at h
  have h2 := h.tail.tail
  have h6 := h2.tail.tail.tail.tail
  have t : Lib.TabIs Tryz.prog W "shapesearch/unit.powers" .i64 [1, 10, 100, 1000, 10000, 100000, 1000000] :=
    Lib.tabIs_of_head (g := 0) (t := 173) (e := 3) (n := 7) (by kernel_rfl) (by kernel_rfl) Tryz.underlying173 Tryz.underlying3 (by kernel_rfl) (by kernel_rfl) h6
  intro i hi
  have := t.cell (g := 0) (by kernel_rfl) i (by simp; omega)
  rw [this]
  match i, hi with
  | 0, _ => rfl
  | 1, _ => rfl
  | 2, _ => rfl
  | 3, _ => rfl
  | 4, _ => rfl
  | 5, _ => rfl
  | 6, _ => rfl
end Go.Proofs.YtpbnabibnkohdaaGreatDoor.Tp
namespace Go.Proofs.YtpbnabibnkohdaaGreatDoor.Tc
open Go.ChangeShapes Go.WideShapes Go.RowKit Wo Sr Wi Ch
set_option linter.unusedVariables false
def s2 {α : Type} (x y : α) (j : Nat) : α := if j = 0 then x else y
theorem bun2 {W : World} {g n a b c d : Nat} {t : TypeId} {L M : List Int} (hg : Bk W g t #[.slice (some ⟨a, 0, none⟩) n c, .slice (some ⟨b, 0, none⟩) n d]) (h1 : Zi W (some ⟨a, 0, none⟩) n L) (h2 : Zi W (some ⟨b, 0, none⟩) n M) (sL : Sam L) (sM : Sam M) :
    Bun W g 2 n (s2 (some ⟨a, 0, none⟩) (some ⟨b, 0, none⟩)) (s2 c d) (s2 L M) := ⟨hg.lt, fun j hj => by
  rcases (show j = 0 ∨ j = 1 by omega) with rfl | rfl
  · exact ⟨hg.cell 0, h1, sL⟩
  · exact ⟨hg.cell 1, h2, sM⟩⟩
theorem aps2 (b : Int) (n : Nat) (X U Y V : List Int) : aps b n n (s2 X U) (s2 Y V) 2 = wt X Y b n n + wt U V b n n := by
  show 0 + wg (cst X Y) b n n + wg (cst U V) b n n = _
  rw [← wg_cst X Y b _ n n rfl, ← wg_cst U V b _ n n rfl, Int.zero_add]
theorem wt_same {X : List Int} {b : Int} {n : Nat} (hs : Sam X) (hb : 0 ≤ b) (hl : X.length = n) (n1 : 1 ≤ n) (n32 : n ≤ 32) : wt X X b n n = 0 := by
  have h0 : wt X X 0 n n = 0 := by
    rw [wt_zero hs hs rfl n (by omega) (by omega), List.take_of_length_le (by rw [df_len rfl]; omega)]
    exact (df_zero X X rfl).2 rfl
  have h1 := wt_nn (b := b) hs hs n n
  obtain ⟨i, rfl⟩ : ∃ i, n = i + 1 := ⟨n - 1, by omega⟩
  have h2 := wt_mono (b := 0) (c := b) hs hs (by decide) hb (i := i) (j := i) (by omega) (by omega) ⟨by omega, by omega⟩
  omega
end Go.Proofs.YtpbnabibnkohdaaGreatDoor.Tc
