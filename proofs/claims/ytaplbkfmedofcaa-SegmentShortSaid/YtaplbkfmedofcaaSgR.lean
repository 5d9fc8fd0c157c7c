/- ref10.Measure. -/
import Derived.Test.YtaplbkfmedofcaaSgA
import Derived.Test.YtaplbkfmedofcaaRegionInv
namespace Go.Proofs.Ytaplbkfmedofcaa.Sg
open Go.ChangeShapes Go.WideShapes Go.RowKit Wo Bm By Cd Pk Cr
open Wi (Zi zi_bk row_form own_zi)
open Sr (zs zs_at zs_len)
set_option linter.unusedVariables false
def mnk (x : List Int) (k : Nat) : Int := (x.take k).foldl min (x.getD 0 0)
def mxk (x : List Int) (k : Nat) : Int := (x.take k).foldl max (x.getD 0 0)
theorem mnk_next {x : List Int} {k : Nat} (h : k < x.length) : mnk x (k + 1) = min (mnk x k) (x.getD k 0) := by
  unfold mnk; rw [take_next x k h, List.foldl_append]; rfl
theorem mxk_next {x : List Int} {k : Nat} (h : k < x.length) : mxk x (k + 1) = max (mxk x k) (x.getD k 0) := by
  unfold mxk; rw [take_next x k h, List.foldl_append]; rfl
theorem headD_getD (x : List Int) : x.headD 0 = x.getD 0 0 := by cases x <;> rfl
theorem mnk_all (x : List Int) (n : Nat) (h : x.length = n) : mnk x n = mn x := by
  unfold mnk mn Lib.minOf; rw [List.take_of_length_le (by omega), headD_getD]
theorem mxk_all (x : List Int) (n : Nat) (h : x.length = n) : mxk x n = mx x := by
  unfold mxk mx Lib.maxOf; rw [List.take_of_length_le (by omega), headD_getD]
theorem rep_get {q n : Nat} : (Array.replicate n false).getD q false = false := by
  rw [Array.getD_eq_getD_getElem?, Array.getElem?_replicate]
  split <;> simp
theorem get_def {li : Array Bool} {q : Nat} (h : li.getD q false = true) : li.getD q true = true := by
  rw [Array.getD_eq_getD_getElem?] at h ⊢
  cases hx : li[q]?
  · rw [hx] at h; cases h
  · rw [hx] at h; exact h
theorem get_set {li : Array Bool} {q : Nat} (h : li.getD q true = false) : (li.setIfInBounds q true).getD q false = true := by
  rw [Array.getD_eq_getD_getElem?] at h ⊢
  have hl : q < li.size := by
    rcases Nat.lt_or_ge q li.size with hl | hl
    · exact hl
    · rw [Array.getElem?_eq_none hl] at h; cases h
  rw [Array.getElem?_setIfInBounds, if_pos rfl, if_pos hl]; rfl
def QW (w : World) (n : Nat) (m m' M M' s s' : Int) (b1 b2 b3 : Bool) (W : World) : Prop := Bk W (w.heap.size + 1) 34 (hcs 0 (n : Int) (if b1 = true then m' else m) (if b2 = true then M' else M) (if b3 = true then s' else s)) ∧ Bk W w.heap.size 34 (hcs 0 0 0 0 0) ∧ Bel w W
theorem QW.st2 {w W : World} {n : Nat} {m m' M M' s s' : Int} {b1 b2 b3 : Bool} (h : QW w n m m' M M' s s' b1 b2 b3 W) : QW w n m m' M M' s s' true b2 b3 (W.setCell ⟨w.heap.size + 1, 2, none⟩ (.int .i64 m')) := ⟨h.1.st 2 _, h.2.1.far (by show w.heap.size ≠ w.heap.size + 1; omega) _, h.2.2.st (by show _ ≤ w.heap.size + 1; omega) _⟩
theorem QW.st3 {w W : World} {n : Nat} {m m' M M' s s' : Int} {b1 b2 b3 : Bool} (h : QW w n m m' M M' s s' b1 b2 b3 W) : QW w n m m' M M' s s' b1 true b3 (W.setCell ⟨w.heap.size + 1, 3, none⟩ (.int .i64 M')) := ⟨h.1.st 3 _, h.2.1.far (by show w.heap.size ≠ w.heap.size + 1; omega) _, h.2.2.st (by show _ ≤ w.heap.size + 1; omega) _⟩
theorem QW.st4 {w W : World} {n : Nat} {m m' M M' s s' : Int} {b1 b2 b3 : Bool} (h : QW w n m m' M M' s s' b1 b2 b3 W) : QW w n m m' M M' s s' b1 b2 true (W.setCell ⟨w.heap.size + 1, 4, none⟩ (.int .i64 s')) := ⟨h.1.st 4 _, h.2.1.far (by show w.heap.size ≠ w.heap.size + 1; omega) _, h.2.2.st (by show _ ≤ w.heap.size + 1; omega) _⟩
theorem results_h1 {fn : Func} {p : Tmp} (h : fn.results = #[.cell p 34]) (tmps : Array Value) (w : World) (g : Nat) (K C Lo G S : Int)
    (hp : tmps.getD p undef = .pointer (some ⟨g, 0, none⟩)) (hg : Bk w g 34 (hcs K C Lo G S)) :
    (results fn tmps).run Try.prog w = .ok (hdv K C Lo G S) w := by
  have hp' : tmps[p]?.getD undef = .pointer (some ⟨g, 0, none⟩) := by simpa using hp
  have hl := run_loadVar_row (P := Try.prog) w g 34 34 (hcs K C Lo G S) (0, 0) _ hg Try.underlying34 rfl (by kernel_rfl)
  simp [results, h, hp', asAddr, hl, hdv, hcs]
def QRel (x : List Int) (n : Nat) (w : World) (s16 : Value) (wr : World) : Prop := ∃ (k : Nat) (V : World), V = wr ∧ k ≤ n ∧ s16 = .int .i64 (k : Int) ∧ Bk wr (w.heap.size + 1) 34 (hcs 0 (n : Int) (mnk x k) (mxk x k) (x.take k).sum) ∧ Bk wr w.heap.size 34 (hcs 0 0 0 0 0) ∧ Bel w wr
set_option maxHeartbeats 4000000 in
set_option maxRecDepth 100000 in
theorem meas_ok (A : Option Addr) (c n : Nat) (x : List Int) (hv : Vx x) (hn : x.length = n) (w : World) (hz : Zi w A n x) :
    Calls Try.prog 15 #[.slice A n c] w fun e w' => e = .returned (hdv 0 (n : Int) (mn x) (mx x) x.sum) ∧ Bel w w' := by
  have hn1 : 1 ≤ n ∧ n ≤ 64 := by have := hv.1; have := hv.2.1; omega
  have HZ := Lib.hid hz
  have HN := Lib.hid hn
  have HV := Lib.hid hv
  obtain ⟨ad, rfl, _, hac⟩ := hz.2 (by omega)
  have c0 := hac 0 (by omega)
  rw [add_zero] at c0
  obtain ⟨z0, hz0⟩ : ∃ z, x.getD 0 0 = z := ⟨_, rfl⟩
  rw [hz0] at c0
  have c0a : ∀ o, (w.alloc o).cell? ad = some (.int .i64 z0) := fun o => kp_al c0 o
  have HZ0 := Lib.hid hz0
  have ni : (n : Int) ≤ 64 := by omega
  have ni1 : (0 : Int) < (n : Int) := by omega
  have ni2 : 0 < n := by omega
  have ni3 : ((0 : Int) < (n : Int)) = True := eq_true ni1
  clear hz hac hz0 hn hv
  go_enter Try.func15, Try.ntmps15
  go_wp2_with fail
  go_region_held3 (fun w' => w'.cell? ad = some (.int .i64 z0))
    (first
      | ((show World.cell? _ _ = some _); (repeat (first | (with_reducible exact c0) | (with_reducible refine kp_drwN ?_ _) | (with_reducible refine kp_drw ?_) | (with_reducible refine kp_al ?_ _))); done))
    (fail)
  all_goals
    have HR0 : Hid (QRel x n w (.int .i64 0) ((w.alloc (.cells #[.int .i64 0, .int .i64 0, .int .i64 0, .int .i64 0, .int .i64 0] 34)).alloc (.cells #[.int .i64 0, .int .i64 (n : Int), .int .i64 z0, .int .i64 z0, .int .i64 0] 34)).drew) := by
      refine ⟨0, _, rfl, by omega, rfl, ?_, ((Bk.nw _ _ _).al _).drw, ((Bel.rf.al _).al _).drw⟩
      have e1 : mnk x 0 = z0 := by unfold mnk; rw [HZ0.out]; rfl
      have e2 : mxk x 0 = z0 := by unfold mxk; rw [HZ0.out]; rfl
      rw [e1, e2]
      exact (Bk.nq _ _ _ (by simp)).drw
    clear c0 c0a
    go_wp2_with fail
    go_loopw [16] (fun s16 wr => QRel x n w s16 wr) (fun s16 _ => n - (intOf s16).toNat)
    case atStart => exact HR0.out
    case round =>
      clear HR0
      obtain ⟨k, wr, hwr, hk, rfl, hb, hb0, hbe⟩ := hrel
      subst hwr
      have HB := Lib.hid hb
      have HB0 := Lib.hid hb0
      have HX := Lib.hid hbe
      rcases Nat.lt_or_ge k n with hlt | hge
      · obtain ⟨ad', heq, _, hac⟩ := HZ.out.2 (by omega)
        injection heq with heq
        subst heq
        have cz := hac k hlt
        have ki : (k : Int) < (n : Int) := by omega
        obtain ⟨m, hm⟩ : ∃ m, mnk x k = m := ⟨_, rfl⟩
        obtain ⟨M, hM⟩ : ∃ m, mxk x k = m := ⟨_, rfl⟩
        obtain ⟨s, hs⟩ : ∃ m, (x.take k).sum = m := ⟨_, rfl⟩
        obtain ⟨z, hz⟩ : ∃ m, x.getD k 0 = m := ⟨_, rfl⟩
        obtain ⟨m', hm'⟩ : ∃ m, mnk x (k + 1) = m := ⟨_, rfl⟩
        obtain ⟨M', hM'⟩ : ∃ m, mxk x (k + 1) = m := ⟨_, rfl⟩
        obtain ⟨s', hs'⟩ : ∃ m, (x.take (k + 1)).sum = m := ⟨_, rfl⟩
        have hkx : k < x.length := by have := HN.out; omega
        have q1 : min m z = m' := by rw [← hm', mnk_next hkx, hm, hz]
        have q2 : max M z = M' := by rw [← hM', mxk_next hkx, hM, hz]
        have q3 : s + z = s' := by rw [← hs', take_next x k hkx, List.sum_append, hs, hz]; simp
        have HSB : Hid (-64000 ≤ s ∧ s ≤ 64000 ∧ -1000 ≤ z ∧ z ≤ 1000) := by
          have h1 := sum_in (x.take k) (HV.out.2.2.take k)
          have h2 := HV.out.2.2.at k
          rw [List.length_take] at h1
          show _ ∧ _
          omega
        have sb := HSB.out
        have q4 : (if z < m then z else m) = m' := by rw [← q1]; split <;> omega
        have q5 : (if M < z then z else M) = M' := by rw [← q2]; split <;> omega
        have q6 : (if m < z then m else z) = m' := by rw [← q1]; split <;> omega
        have q7 : (if z < M then M else z) = M' := by rw [← q2]; split <;> omega
        rw [hm, hM, hs] at hb
        rw [hz] at cz
        have HBH := Lib.hid hb
        have HLT : Hid (mnk x (k + 1) = m' ∧ mxk x (k + 1) = M' ∧ (x.take (k + 1)).sum = s') := ⟨hm', hM', hs'⟩
        clear hb hb0 hbe hac hm hM hs hz hm' hM' hs' HB
        go_wp2_with fail
        obtain ⟨J3, HJ3⟩ : ∃ J3 : Array Bool → Act → World → Prop, Hid (∀ li a W, J3 li a W ↔ ∃ v : Nat → Value, a = { tmps := #[.slice (some ad) n c, undef, .pointer (some ⟨w.heap.size, 0, none⟩), .pointer (some ⟨w.heap.size + 1, 0, none⟩), .int .i64 (k : Int), .slice (some ad) n c, .int .i64 (n : Int), .slice (some ad) n c, .pointer (some ad), .int .i64 z0, .slice (some ad) n c, .pointer (some ad), .int .i64 z0, .agg #[.int .i64 0, .int .i64 (n : Int), .int .i64 z0, .int .i64 z0, .int .i64 0], .slice (some ad) n c, .int .i64 (n : Int), .int .i64 (k : Int), .bool true, .int .i64 (k : Int), v 0, v 1, v 2, v 3, v 4, v 5, v 6, v 7, v 8, v 9, v 10, v 11, v 12, v 13, v 14, v 15, v 16, v 17, v 18, v 19, v 20, v 21, v 23, v 25, u43, undef], defers := [] } ∧ (li.getD 0 false = true → v 0 = .pointer (some ⟨w.heap.size + 1, 2, none⟩)) ∧ (li.getD 1 false = true → v 1 = .int .i64 m) ∧ (li.getD 2 false = true → v 2 = .slice (some ad) n c) ∧ (li.getD 3 false = true → v 3 = .int .i64 (k : Int)) ∧ (li.getD 4 false = true → v 4 = .pointer (some (ad.add k))) ∧ (li.getD 5 false = true → v 5 = .int .i64 z) ∧ (li.getD 6 false = true → v 6 = .int .i64 m') ∧ (li.getD 7 false = true → v 7 = .pointer (some ⟨w.heap.size + 1, 3, none⟩)) ∧ (li.getD 8 false = true → v 8 = .int .i64 M) ∧ (li.getD 9 false = true → v 9 = .slice (some ad) n c) ∧ (li.getD 10 false = true → v 10 = .int .i64 (k : Int)) ∧ (li.getD 11 false = true → v 11 = .pointer (some (ad.add k))) ∧ (li.getD 12 false = true → v 12 = .int .i64 z) ∧ (li.getD 13 false = true → v 13 = .int .i64 M') ∧ (li.getD 14 false = true → v 14 = .pointer (some ⟨w.heap.size + 1, 4, none⟩)) ∧ (li.getD 15 false = true → v 15 = .int .i64 s) ∧ (li.getD 16 false = true → v 16 = .slice (some ad) n c) ∧ (li.getD 17 false = true → v 17 = .int .i64 (k : Int)) ∧ (li.getD 18 false = true → v 18 = .pointer (some (ad.add k))) ∧ (li.getD 19 false = true → v 19 = .int .i64 z) ∧ (li.getD 20 false = true → v 20 = .int .i64 s') ∧ (li.getD 21 false = true → v 21 = .pointer (some ⟨w.heap.size + 1, 2, none⟩)) ∧ (li.getD 23 false = true → v 23 = .pointer (some ⟨w.heap.size + 1, 3, none⟩)) ∧ (li.getD 25 false = true → v 25 = .pointer (some ⟨w.heap.size + 1, 4, none⟩)) ∧ QW w n m m' M M' s s' (li.getD 22 false) (li.getD 24 false) (li.getD 26 false) W) := ⟨_, fun _ _ _ => Iff.rfl⟩
        refine Ri9.wp_region_inv2 (by kernel_rfl) (by intro i o ho; (rcases i with _ | _ | _ | _ | _ | _ | _ | _ | _ | _ | _ | _ | _ | _ | _ | _ | _ | _ | _ | _ | _ | _ | _ | _ | _ | _ | _ | i) <;> first | (cases ho; decide) | (exact absurd ho (by simp))) J3 ?_ ?_ ?_
        · refine (HJ3.out _ _ _).2 ⟨fun k => (#[u19, u20, u21, u22, u23, u24, u25, u26, u27, u28, u29, u30, u31, u32, u33, u34, u35, u36, u37, u38, u39, u40, undef, u41, undef, u42, undef] : Array Value).getD k undef, by rfl, (fun h => by rw [rep_get] at h; cases h), (fun h => by rw [rep_get] at h; cases h), (fun h => by rw [rep_get] at h; cases h), (fun h => by rw [rep_get] at h; cases h), (fun h => by rw [rep_get] at h; cases h), (fun h => by rw [rep_get] at h; cases h), (fun h => by rw [rep_get] at h; cases h), (fun h => by rw [rep_get] at h; cases h), (fun h => by rw [rep_get] at h; cases h), (fun h => by rw [rep_get] at h; cases h), (fun h => by rw [rep_get] at h; cases h), (fun h => by rw [rep_get] at h; cases h), (fun h => by rw [rep_get] at h; cases h), (fun h => by rw [rep_get] at h; cases h), (fun h => by rw [rep_get] at h; cases h), (fun h => by rw [rep_get] at h; cases h), (fun h => by rw [rep_get] at h; cases h), (fun h => by rw [rep_get] at h; cases h), (fun h => by rw [rep_get] at h; cases h), (fun h => by rw [rep_get] at h; cases h), (fun h => by rw [rep_get] at h; cases h), (fun h => by rw [rep_get] at h; cases h), (fun h => by rw [rep_get] at h; cases h), (fun h => by rw [rep_get] at h; cases h), ?_⟩
          rw [rep_get, rep_get, rep_get]
          exact ⟨HBH.out.drw, HB0.out.drw, HX.out.drw⟩
        · intro k o ho li a W hcl hJ3 haft hun
          obtain ⟨v, rfl, f0, f1, f2, f3, f4, f5, f6, f7, f8, f9, f10, f11, f12, f13, f14, f15, f16, f17, f18, f19, f20, f21, f23, f25, hw⟩ := (HJ3.out _ _ _).1 hJ3
          have HC := Lib.hid hcl
          have HAF := Lib.hid haft
          have HW := Lib.hid hw
          clear hcl hJ3 haft hw
          rcases k with _ | _ | _ | _ | _ | _ | _ | _ | _ | _ | _ | _ | _ | _ | _ | _ | _ | _ | _ | _ | _ | _ | _ | _ | _ | _ | _ | k
          · cases ho
            have HUN := Lib.hid hun
            have HFF := Lib.hid (And.intro f0 ( And.intro f1 ( And.intro f2 ( And.intro f3 ( And.intro f4 ( And.intro f5 ( And.intro f6 ( And.intro f7 ( And.intro f8 ( And.intro f9 ( And.intro f10 ( And.intro f11 ( And.intro f12 ( And.intro f13 ( And.intro f14 ( And.intro f15 ( And.intro f16 ( And.intro f17 ( And.intro f18 ( And.intro f19 ( And.intro f20 ( And.intro f21 ( And.intro f23 (f25))))))))))))))))))))))))
            clear f0 f1 f2 f3 f4 f5 f6 f7 f8 f9 f10 f11 f12 f13 f14 f15 f16 f17 f18 f19 f20 f21 f23 f25 hun
            refine Ri9.wpOp_list rfl ?_
            go_wp2
            refine (HJ3.out _ _ _).2 ⟨fun qq => if qq = 0 then .pointer (some ⟨w.heap.size + 1, 2, none⟩) else v qq, by simp [], (fun _ => rfl), (fun h => HFF.out.2.1 (by rw [getD_set_ne _ (by decide)] at h; exact h)), (fun h => HFF.out.2.2.1 (by rw [getD_set_ne _ (by decide)] at h; exact h)), (fun h => HFF.out.2.2.2.1 (by rw [getD_set_ne _ (by decide)] at h; exact h)), (fun h => HFF.out.2.2.2.2.1 (by rw [getD_set_ne _ (by decide)] at h; exact h)), (fun h => HFF.out.2.2.2.2.2.1 (by rw [getD_set_ne _ (by decide)] at h; exact h)), (fun h => HFF.out.2.2.2.2.2.2.1 (by rw [getD_set_ne _ (by decide)] at h; exact h)), (fun h => HFF.out.2.2.2.2.2.2.2.1 (by rw [getD_set_ne _ (by decide)] at h; exact h)), (fun h => HFF.out.2.2.2.2.2.2.2.2.1 (by rw [getD_set_ne _ (by decide)] at h; exact h)), (fun h => HFF.out.2.2.2.2.2.2.2.2.2.1 (by rw [getD_set_ne _ (by decide)] at h; exact h)), (fun h => HFF.out.2.2.2.2.2.2.2.2.2.2.1 (by rw [getD_set_ne _ (by decide)] at h; exact h)), (fun h => HFF.out.2.2.2.2.2.2.2.2.2.2.2.1 (by rw [getD_set_ne _ (by decide)] at h; exact h)), (fun h => HFF.out.2.2.2.2.2.2.2.2.2.2.2.2.1 (by rw [getD_set_ne _ (by decide)] at h; exact h)), (fun h => HFF.out.2.2.2.2.2.2.2.2.2.2.2.2.2.1 (by rw [getD_set_ne _ (by decide)] at h; exact h)), (fun h => HFF.out.2.2.2.2.2.2.2.2.2.2.2.2.2.2.1 (by rw [getD_set_ne _ (by decide)] at h; exact h)), (fun h => HFF.out.2.2.2.2.2.2.2.2.2.2.2.2.2.2.2.1 (by rw [getD_set_ne _ (by decide)] at h; exact h)), (fun h => HFF.out.2.2.2.2.2.2.2.2.2.2.2.2.2.2.2.2.1 (by rw [getD_set_ne _ (by decide)] at h; exact h)), (fun h => HFF.out.2.2.2.2.2.2.2.2.2.2.2.2.2.2.2.2.2.1 (by rw [getD_set_ne _ (by decide)] at h; exact h)), (fun h => HFF.out.2.2.2.2.2.2.2.2.2.2.2.2.2.2.2.2.2.2.1 (by rw [getD_set_ne _ (by decide)] at h; exact h)), (fun h => HFF.out.2.2.2.2.2.2.2.2.2.2.2.2.2.2.2.2.2.2.2.1 (by rw [getD_set_ne _ (by decide)] at h; exact h)), (fun h => HFF.out.2.2.2.2.2.2.2.2.2.2.2.2.2.2.2.2.2.2.2.2.1 (by rw [getD_set_ne _ (by decide)] at h; exact h)), (fun h => HFF.out.2.2.2.2.2.2.2.2.2.2.2.2.2.2.2.2.2.2.2.2.2.1 (by rw [getD_set_ne _ (by decide)] at h; exact h)), (fun h => HFF.out.2.2.2.2.2.2.2.2.2.2.2.2.2.2.2.2.2.2.2.2.2.2.1 (by rw [getD_set_ne _ (by decide)] at h; exact h)), (fun h => HFF.out.2.2.2.2.2.2.2.2.2.2.2.2.2.2.2.2.2.2.2.2.2.2.2 (by rw [getD_set_ne _ (by decide)] at h; exact h)), ?_⟩
            rw [getD_set_ne (i := 0) (j := 22) _ (by decide)]
            rw [getD_set_ne (i := 0) (j := 24) _ (by decide)]
            rw [getD_set_ne (i := 0) (j := 26) _ (by decide)]
            exact HW.out
          · cases ho
            have e0 := f0 (HAF.out ⟨0, .data⟩ (by simp) rfl)
            have HUN := Lib.hid hun
            have n22 : li.getD 22 false = false := by
              cases hx : li.getD 22 false
              · rfl
              · rw [get_def (HC.out 22 _ rfl hx ⟨1, .phase⟩ (by simp) rfl)] at hun; cases hun
            have cc := (HW.out.1.cell 2)
            simp only [hcs, n22, List.getElem?_toArray, List.getElem?_cons_zero, List.getElem?_cons_succ, Bool.false_eq_true, if_false] at cc
            have HFF := Lib.hid (And.intro f0 ( And.intro f1 ( And.intro f2 ( And.intro f3 ( And.intro f4 ( And.intro f5 ( And.intro f6 ( And.intro f7 ( And.intro f8 ( And.intro f9 ( And.intro f10 ( And.intro f11 ( And.intro f12 ( And.intro f13 ( And.intro f14 ( And.intro f15 ( And.intro f16 ( And.intro f17 ( And.intro f18 ( And.intro f19 ( And.intro f20 ( And.intro f21 ( And.intro f23 (f25))))))))))))))))))))))))
            clear f0 f1 f2 f3 f4 f5 f6 f7 f8 f9 f10 f11 f12 f13 f14 f15 f16 f17 f18 f19 f20 f21 f23 f25 hun
            refine Ri9.wpOp_list rfl ?_
            go_wp2
            refine (HJ3.out _ _ _).2 ⟨fun qq => if qq = 1 then .int .i64 m else v qq, by simp [e0], (fun h => HFF.out.1 (by rw [getD_set_ne _ (by decide)] at h; exact h)), (fun _ => rfl), (fun h => HFF.out.2.2.1 (by rw [getD_set_ne _ (by decide)] at h; exact h)), (fun h => HFF.out.2.2.2.1 (by rw [getD_set_ne _ (by decide)] at h; exact h)), (fun h => HFF.out.2.2.2.2.1 (by rw [getD_set_ne _ (by decide)] at h; exact h)), (fun h => HFF.out.2.2.2.2.2.1 (by rw [getD_set_ne _ (by decide)] at h; exact h)), (fun h => HFF.out.2.2.2.2.2.2.1 (by rw [getD_set_ne _ (by decide)] at h; exact h)), (fun h => HFF.out.2.2.2.2.2.2.2.1 (by rw [getD_set_ne _ (by decide)] at h; exact h)), (fun h => HFF.out.2.2.2.2.2.2.2.2.1 (by rw [getD_set_ne _ (by decide)] at h; exact h)), (fun h => HFF.out.2.2.2.2.2.2.2.2.2.1 (by rw [getD_set_ne _ (by decide)] at h; exact h)), (fun h => HFF.out.2.2.2.2.2.2.2.2.2.2.1 (by rw [getD_set_ne _ (by decide)] at h; exact h)), (fun h => HFF.out.2.2.2.2.2.2.2.2.2.2.2.1 (by rw [getD_set_ne _ (by decide)] at h; exact h)), (fun h => HFF.out.2.2.2.2.2.2.2.2.2.2.2.2.1 (by rw [getD_set_ne _ (by decide)] at h; exact h)), (fun h => HFF.out.2.2.2.2.2.2.2.2.2.2.2.2.2.1 (by rw [getD_set_ne _ (by decide)] at h; exact h)), (fun h => HFF.out.2.2.2.2.2.2.2.2.2.2.2.2.2.2.1 (by rw [getD_set_ne _ (by decide)] at h; exact h)), (fun h => HFF.out.2.2.2.2.2.2.2.2.2.2.2.2.2.2.2.1 (by rw [getD_set_ne _ (by decide)] at h; exact h)), (fun h => HFF.out.2.2.2.2.2.2.2.2.2.2.2.2.2.2.2.2.1 (by rw [getD_set_ne _ (by decide)] at h; exact h)), (fun h => HFF.out.2.2.2.2.2.2.2.2.2.2.2.2.2.2.2.2.2.1 (by rw [getD_set_ne _ (by decide)] at h; exact h)), (fun h => HFF.out.2.2.2.2.2.2.2.2.2.2.2.2.2.2.2.2.2.2.1 (by rw [getD_set_ne _ (by decide)] at h; exact h)), (fun h => HFF.out.2.2.2.2.2.2.2.2.2.2.2.2.2.2.2.2.2.2.2.1 (by rw [getD_set_ne _ (by decide)] at h; exact h)), (fun h => HFF.out.2.2.2.2.2.2.2.2.2.2.2.2.2.2.2.2.2.2.2.2.1 (by rw [getD_set_ne _ (by decide)] at h; exact h)), (fun h => HFF.out.2.2.2.2.2.2.2.2.2.2.2.2.2.2.2.2.2.2.2.2.2.1 (by rw [getD_set_ne _ (by decide)] at h; exact h)), (fun h => HFF.out.2.2.2.2.2.2.2.2.2.2.2.2.2.2.2.2.2.2.2.2.2.2.1 (by rw [getD_set_ne _ (by decide)] at h; exact h)), (fun h => HFF.out.2.2.2.2.2.2.2.2.2.2.2.2.2.2.2.2.2.2.2.2.2.2.2 (by rw [getD_set_ne _ (by decide)] at h; exact h)), ?_⟩
            rw [getD_set_ne (i := 1) (j := 22) _ (by decide)]
            rw [getD_set_ne (i := 1) (j := 24) _ (by decide)]
            rw [getD_set_ne (i := 1) (j := 26) _ (by decide)]
            exact HW.out
          · cases ho
            have HUN := Lib.hid hun
            have HFF := Lib.hid (And.intro f0 ( And.intro f1 ( And.intro f2 ( And.intro f3 ( And.intro f4 ( And.intro f5 ( And.intro f6 ( And.intro f7 ( And.intro f8 ( And.intro f9 ( And.intro f10 ( And.intro f11 ( And.intro f12 ( And.intro f13 ( And.intro f14 ( And.intro f15 ( And.intro f16 ( And.intro f17 ( And.intro f18 ( And.intro f19 ( And.intro f20 ( And.intro f21 ( And.intro f23 (f25))))))))))))))))))))))))
            clear f0 f1 f2 f3 f4 f5 f6 f7 f8 f9 f10 f11 f12 f13 f14 f15 f16 f17 f18 f19 f20 f21 f23 f25 hun
            refine Ri9.wpOp_list rfl ?_
            go_wp2
            refine (HJ3.out _ _ _).2 ⟨fun qq => if qq = 2 then .slice (some ad) n c else v qq, by simp [], (fun h => HFF.out.1 (by rw [getD_set_ne _ (by decide)] at h; exact h)), (fun h => HFF.out.2.1 (by rw [getD_set_ne _ (by decide)] at h; exact h)), (fun _ => rfl), (fun h => HFF.out.2.2.2.1 (by rw [getD_set_ne _ (by decide)] at h; exact h)), (fun h => HFF.out.2.2.2.2.1 (by rw [getD_set_ne _ (by decide)] at h; exact h)), (fun h => HFF.out.2.2.2.2.2.1 (by rw [getD_set_ne _ (by decide)] at h; exact h)), (fun h => HFF.out.2.2.2.2.2.2.1 (by rw [getD_set_ne _ (by decide)] at h; exact h)), (fun h => HFF.out.2.2.2.2.2.2.2.1 (by rw [getD_set_ne _ (by decide)] at h; exact h)), (fun h => HFF.out.2.2.2.2.2.2.2.2.1 (by rw [getD_set_ne _ (by decide)] at h; exact h)), (fun h => HFF.out.2.2.2.2.2.2.2.2.2.1 (by rw [getD_set_ne _ (by decide)] at h; exact h)), (fun h => HFF.out.2.2.2.2.2.2.2.2.2.2.1 (by rw [getD_set_ne _ (by decide)] at h; exact h)), (fun h => HFF.out.2.2.2.2.2.2.2.2.2.2.2.1 (by rw [getD_set_ne _ (by decide)] at h; exact h)), (fun h => HFF.out.2.2.2.2.2.2.2.2.2.2.2.2.1 (by rw [getD_set_ne _ (by decide)] at h; exact h)), (fun h => HFF.out.2.2.2.2.2.2.2.2.2.2.2.2.2.1 (by rw [getD_set_ne _ (by decide)] at h; exact h)), (fun h => HFF.out.2.2.2.2.2.2.2.2.2.2.2.2.2.2.1 (by rw [getD_set_ne _ (by decide)] at h; exact h)), (fun h => HFF.out.2.2.2.2.2.2.2.2.2.2.2.2.2.2.2.1 (by rw [getD_set_ne _ (by decide)] at h; exact h)), (fun h => HFF.out.2.2.2.2.2.2.2.2.2.2.2.2.2.2.2.2.1 (by rw [getD_set_ne _ (by decide)] at h; exact h)), (fun h => HFF.out.2.2.2.2.2.2.2.2.2.2.2.2.2.2.2.2.2.1 (by rw [getD_set_ne _ (by decide)] at h; exact h)), (fun h => HFF.out.2.2.2.2.2.2.2.2.2.2.2.2.2.2.2.2.2.2.1 (by rw [getD_set_ne _ (by decide)] at h; exact h)), (fun h => HFF.out.2.2.2.2.2.2.2.2.2.2.2.2.2.2.2.2.2.2.2.1 (by rw [getD_set_ne _ (by decide)] at h; exact h)), (fun h => HFF.out.2.2.2.2.2.2.2.2.2.2.2.2.2.2.2.2.2.2.2.2.1 (by rw [getD_set_ne _ (by decide)] at h; exact h)), (fun h => HFF.out.2.2.2.2.2.2.2.2.2.2.2.2.2.2.2.2.2.2.2.2.2.1 (by rw [getD_set_ne _ (by decide)] at h; exact h)), (fun h => HFF.out.2.2.2.2.2.2.2.2.2.2.2.2.2.2.2.2.2.2.2.2.2.2.1 (by rw [getD_set_ne _ (by decide)] at h; exact h)), (fun h => HFF.out.2.2.2.2.2.2.2.2.2.2.2.2.2.2.2.2.2.2.2.2.2.2.2 (by rw [getD_set_ne _ (by decide)] at h; exact h)), ?_⟩
            rw [getD_set_ne (i := 2) (j := 22) _ (by decide)]
            rw [getD_set_ne (i := 2) (j := 24) _ (by decide)]
            rw [getD_set_ne (i := 2) (j := 26) _ (by decide)]
            exact HW.out
          · cases ho
            have HUN := Lib.hid hun
            have HFF := Lib.hid (And.intro f0 ( And.intro f1 ( And.intro f2 ( And.intro f3 ( And.intro f4 ( And.intro f5 ( And.intro f6 ( And.intro f7 ( And.intro f8 ( And.intro f9 ( And.intro f10 ( And.intro f11 ( And.intro f12 ( And.intro f13 ( And.intro f14 ( And.intro f15 ( And.intro f16 ( And.intro f17 ( And.intro f18 ( And.intro f19 ( And.intro f20 ( And.intro f21 ( And.intro f23 (f25))))))))))))))))))))))))
            clear f0 f1 f2 f3 f4 f5 f6 f7 f8 f9 f10 f11 f12 f13 f14 f15 f16 f17 f18 f19 f20 f21 f23 f25 hun
            refine Ri9.wpOp_list rfl ?_
            go_wp2
            refine (HJ3.out _ _ _).2 ⟨fun qq => if qq = 3 then .int .i64 (k : Int) else v qq, by simp [], (fun h => HFF.out.1 (by rw [getD_set_ne _ (by decide)] at h; exact h)), (fun h => HFF.out.2.1 (by rw [getD_set_ne _ (by decide)] at h; exact h)), (fun h => HFF.out.2.2.1 (by rw [getD_set_ne _ (by decide)] at h; exact h)), (fun _ => rfl), (fun h => HFF.out.2.2.2.2.1 (by rw [getD_set_ne _ (by decide)] at h; exact h)), (fun h => HFF.out.2.2.2.2.2.1 (by rw [getD_set_ne _ (by decide)] at h; exact h)), (fun h => HFF.out.2.2.2.2.2.2.1 (by rw [getD_set_ne _ (by decide)] at h; exact h)), (fun h => HFF.out.2.2.2.2.2.2.2.1 (by rw [getD_set_ne _ (by decide)] at h; exact h)), (fun h => HFF.out.2.2.2.2.2.2.2.2.1 (by rw [getD_set_ne _ (by decide)] at h; exact h)), (fun h => HFF.out.2.2.2.2.2.2.2.2.2.1 (by rw [getD_set_ne _ (by decide)] at h; exact h)), (fun h => HFF.out.2.2.2.2.2.2.2.2.2.2.1 (by rw [getD_set_ne _ (by decide)] at h; exact h)), (fun h => HFF.out.2.2.2.2.2.2.2.2.2.2.2.1 (by rw [getD_set_ne _ (by decide)] at h; exact h)), (fun h => HFF.out.2.2.2.2.2.2.2.2.2.2.2.2.1 (by rw [getD_set_ne _ (by decide)] at h; exact h)), (fun h => HFF.out.2.2.2.2.2.2.2.2.2.2.2.2.2.1 (by rw [getD_set_ne _ (by decide)] at h; exact h)), (fun h => HFF.out.2.2.2.2.2.2.2.2.2.2.2.2.2.2.1 (by rw [getD_set_ne _ (by decide)] at h; exact h)), (fun h => HFF.out.2.2.2.2.2.2.2.2.2.2.2.2.2.2.2.1 (by rw [getD_set_ne _ (by decide)] at h; exact h)), (fun h => HFF.out.2.2.2.2.2.2.2.2.2.2.2.2.2.2.2.2.1 (by rw [getD_set_ne _ (by decide)] at h; exact h)), (fun h => HFF.out.2.2.2.2.2.2.2.2.2.2.2.2.2.2.2.2.2.1 (by rw [getD_set_ne _ (by decide)] at h; exact h)), (fun h => HFF.out.2.2.2.2.2.2.2.2.2.2.2.2.2.2.2.2.2.2.1 (by rw [getD_set_ne _ (by decide)] at h; exact h)), (fun h => HFF.out.2.2.2.2.2.2.2.2.2.2.2.2.2.2.2.2.2.2.2.1 (by rw [getD_set_ne _ (by decide)] at h; exact h)), (fun h => HFF.out.2.2.2.2.2.2.2.2.2.2.2.2.2.2.2.2.2.2.2.2.1 (by rw [getD_set_ne _ (by decide)] at h; exact h)), (fun h => HFF.out.2.2.2.2.2.2.2.2.2.2.2.2.2.2.2.2.2.2.2.2.2.1 (by rw [getD_set_ne _ (by decide)] at h; exact h)), (fun h => HFF.out.2.2.2.2.2.2.2.2.2.2.2.2.2.2.2.2.2.2.2.2.2.2.1 (by rw [getD_set_ne _ (by decide)] at h; exact h)), (fun h => HFF.out.2.2.2.2.2.2.2.2.2.2.2.2.2.2.2.2.2.2.2.2.2.2.2 (by rw [getD_set_ne _ (by decide)] at h; exact h)), ?_⟩
            rw [getD_set_ne (i := 3) (j := 22) _ (by decide)]
            rw [getD_set_ne (i := 3) (j := 24) _ (by decide)]
            rw [getD_set_ne (i := 3) (j := 26) _ (by decide)]
            exact HW.out
          · cases ho
            have e2 := f2 (HAF.out ⟨2, .data⟩ (by simp) rfl)
            have e3 := f3 (HAF.out ⟨3, .data⟩ (by simp) rfl)
            have HUN := Lib.hid hun
            have HFF := Lib.hid (And.intro f0 ( And.intro f1 ( And.intro f2 ( And.intro f3 ( And.intro f4 ( And.intro f5 ( And.intro f6 ( And.intro f7 ( And.intro f8 ( And.intro f9 ( And.intro f10 ( And.intro f11 ( And.intro f12 ( And.intro f13 ( And.intro f14 ( And.intro f15 ( And.intro f16 ( And.intro f17 ( And.intro f18 ( And.intro f19 ( And.intro f20 ( And.intro f21 ( And.intro f23 (f25))))))))))))))))))))))))
            clear f0 f1 f2 f3 f4 f5 f6 f7 f8 f9 f10 f11 f12 f13 f14 f15 f16 f17 f18 f19 f20 f21 f23 f25 hun
            refine Ri9.wpOp_list rfl ?_
            go_wp2
            refine (HJ3.out _ _ _).2 ⟨fun qq => if qq = 4 then .pointer (some (ad.add k)) else v qq, by simp [e2, e3], (fun h => HFF.out.1 (by rw [getD_set_ne _ (by decide)] at h; exact h)), (fun h => HFF.out.2.1 (by rw [getD_set_ne _ (by decide)] at h; exact h)), (fun h => HFF.out.2.2.1 (by rw [getD_set_ne _ (by decide)] at h; exact h)), (fun h => HFF.out.2.2.2.1 (by rw [getD_set_ne _ (by decide)] at h; exact h)), (fun _ => rfl), (fun h => HFF.out.2.2.2.2.2.1 (by rw [getD_set_ne _ (by decide)] at h; exact h)), (fun h => HFF.out.2.2.2.2.2.2.1 (by rw [getD_set_ne _ (by decide)] at h; exact h)), (fun h => HFF.out.2.2.2.2.2.2.2.1 (by rw [getD_set_ne _ (by decide)] at h; exact h)), (fun h => HFF.out.2.2.2.2.2.2.2.2.1 (by rw [getD_set_ne _ (by decide)] at h; exact h)), (fun h => HFF.out.2.2.2.2.2.2.2.2.2.1 (by rw [getD_set_ne _ (by decide)] at h; exact h)), (fun h => HFF.out.2.2.2.2.2.2.2.2.2.2.1 (by rw [getD_set_ne _ (by decide)] at h; exact h)), (fun h => HFF.out.2.2.2.2.2.2.2.2.2.2.2.1 (by rw [getD_set_ne _ (by decide)] at h; exact h)), (fun h => HFF.out.2.2.2.2.2.2.2.2.2.2.2.2.1 (by rw [getD_set_ne _ (by decide)] at h; exact h)), (fun h => HFF.out.2.2.2.2.2.2.2.2.2.2.2.2.2.1 (by rw [getD_set_ne _ (by decide)] at h; exact h)), (fun h => HFF.out.2.2.2.2.2.2.2.2.2.2.2.2.2.2.1 (by rw [getD_set_ne _ (by decide)] at h; exact h)), (fun h => HFF.out.2.2.2.2.2.2.2.2.2.2.2.2.2.2.2.1 (by rw [getD_set_ne _ (by decide)] at h; exact h)), (fun h => HFF.out.2.2.2.2.2.2.2.2.2.2.2.2.2.2.2.2.1 (by rw [getD_set_ne _ (by decide)] at h; exact h)), (fun h => HFF.out.2.2.2.2.2.2.2.2.2.2.2.2.2.2.2.2.2.1 (by rw [getD_set_ne _ (by decide)] at h; exact h)), (fun h => HFF.out.2.2.2.2.2.2.2.2.2.2.2.2.2.2.2.2.2.2.1 (by rw [getD_set_ne _ (by decide)] at h; exact h)), (fun h => HFF.out.2.2.2.2.2.2.2.2.2.2.2.2.2.2.2.2.2.2.2.1 (by rw [getD_set_ne _ (by decide)] at h; exact h)), (fun h => HFF.out.2.2.2.2.2.2.2.2.2.2.2.2.2.2.2.2.2.2.2.2.1 (by rw [getD_set_ne _ (by decide)] at h; exact h)), (fun h => HFF.out.2.2.2.2.2.2.2.2.2.2.2.2.2.2.2.2.2.2.2.2.2.1 (by rw [getD_set_ne _ (by decide)] at h; exact h)), (fun h => HFF.out.2.2.2.2.2.2.2.2.2.2.2.2.2.2.2.2.2.2.2.2.2.2.1 (by rw [getD_set_ne _ (by decide)] at h; exact h)), (fun h => HFF.out.2.2.2.2.2.2.2.2.2.2.2.2.2.2.2.2.2.2.2.2.2.2.2 (by rw [getD_set_ne _ (by decide)] at h; exact h)), ?_⟩
            rw [getD_set_ne (i := 4) (j := 22) _ (by decide)]
            rw [getD_set_ne (i := 4) (j := 24) _ (by decide)]
            rw [getD_set_ne (i := 4) (j := 26) _ (by decide)]
            exact HW.out
          · cases ho
            have e4 := f4 (HAF.out ⟨4, .data⟩ (by simp) rfl)
            have HUN := Lib.hid hun
            have cc := HW.out.2.2.kp cz
            have HFF := Lib.hid (And.intro f0 ( And.intro f1 ( And.intro f2 ( And.intro f3 ( And.intro f4 ( And.intro f5 ( And.intro f6 ( And.intro f7 ( And.intro f8 ( And.intro f9 ( And.intro f10 ( And.intro f11 ( And.intro f12 ( And.intro f13 ( And.intro f14 ( And.intro f15 ( And.intro f16 ( And.intro f17 ( And.intro f18 ( And.intro f19 ( And.intro f20 ( And.intro f21 ( And.intro f23 (f25))))))))))))))))))))))))
            clear f0 f1 f2 f3 f4 f5 f6 f7 f8 f9 f10 f11 f12 f13 f14 f15 f16 f17 f18 f19 f20 f21 f23 f25 hun
            refine Ri9.wpOp_list rfl ?_
            go_wp2
            refine (HJ3.out _ _ _).2 ⟨fun qq => if qq = 5 then .int .i64 z else v qq, by simp [e4], (fun h => HFF.out.1 (by rw [getD_set_ne _ (by decide)] at h; exact h)), (fun h => HFF.out.2.1 (by rw [getD_set_ne _ (by decide)] at h; exact h)), (fun h => HFF.out.2.2.1 (by rw [getD_set_ne _ (by decide)] at h; exact h)), (fun h => HFF.out.2.2.2.1 (by rw [getD_set_ne _ (by decide)] at h; exact h)), (fun h => HFF.out.2.2.2.2.1 (by rw [getD_set_ne _ (by decide)] at h; exact h)), (fun _ => rfl), (fun h => HFF.out.2.2.2.2.2.2.1 (by rw [getD_set_ne _ (by decide)] at h; exact h)), (fun h => HFF.out.2.2.2.2.2.2.2.1 (by rw [getD_set_ne _ (by decide)] at h; exact h)), (fun h => HFF.out.2.2.2.2.2.2.2.2.1 (by rw [getD_set_ne _ (by decide)] at h; exact h)), (fun h => HFF.out.2.2.2.2.2.2.2.2.2.1 (by rw [getD_set_ne _ (by decide)] at h; exact h)), (fun h => HFF.out.2.2.2.2.2.2.2.2.2.2.1 (by rw [getD_set_ne _ (by decide)] at h; exact h)), (fun h => HFF.out.2.2.2.2.2.2.2.2.2.2.2.1 (by rw [getD_set_ne _ (by decide)] at h; exact h)), (fun h => HFF.out.2.2.2.2.2.2.2.2.2.2.2.2.1 (by rw [getD_set_ne _ (by decide)] at h; exact h)), (fun h => HFF.out.2.2.2.2.2.2.2.2.2.2.2.2.2.1 (by rw [getD_set_ne _ (by decide)] at h; exact h)), (fun h => HFF.out.2.2.2.2.2.2.2.2.2.2.2.2.2.2.1 (by rw [getD_set_ne _ (by decide)] at h; exact h)), (fun h => HFF.out.2.2.2.2.2.2.2.2.2.2.2.2.2.2.2.1 (by rw [getD_set_ne _ (by decide)] at h; exact h)), (fun h => HFF.out.2.2.2.2.2.2.2.2.2.2.2.2.2.2.2.2.1 (by rw [getD_set_ne _ (by decide)] at h; exact h)), (fun h => HFF.out.2.2.2.2.2.2.2.2.2.2.2.2.2.2.2.2.2.1 (by rw [getD_set_ne _ (by decide)] at h; exact h)), (fun h => HFF.out.2.2.2.2.2.2.2.2.2.2.2.2.2.2.2.2.2.2.1 (by rw [getD_set_ne _ (by decide)] at h; exact h)), (fun h => HFF.out.2.2.2.2.2.2.2.2.2.2.2.2.2.2.2.2.2.2.2.1 (by rw [getD_set_ne _ (by decide)] at h; exact h)), (fun h => HFF.out.2.2.2.2.2.2.2.2.2.2.2.2.2.2.2.2.2.2.2.2.1 (by rw [getD_set_ne _ (by decide)] at h; exact h)), (fun h => HFF.out.2.2.2.2.2.2.2.2.2.2.2.2.2.2.2.2.2.2.2.2.2.1 (by rw [getD_set_ne _ (by decide)] at h; exact h)), (fun h => HFF.out.2.2.2.2.2.2.2.2.2.2.2.2.2.2.2.2.2.2.2.2.2.2.1 (by rw [getD_set_ne _ (by decide)] at h; exact h)), (fun h => HFF.out.2.2.2.2.2.2.2.2.2.2.2.2.2.2.2.2.2.2.2.2.2.2.2 (by rw [getD_set_ne _ (by decide)] at h; exact h)), ?_⟩
            rw [getD_set_ne (i := 5) (j := 22) _ (by decide)]
            rw [getD_set_ne (i := 5) (j := 24) _ (by decide)]
            rw [getD_set_ne (i := 5) (j := 26) _ (by decide)]
            exact HW.out
          · cases ho
            have e1 := f1 (HAF.out ⟨1, .data⟩ (by simp) rfl)
            have e5 := f5 (HAF.out ⟨5, .data⟩ (by simp) rfl)
            have HUN := Lib.hid hun
            have HFF := Lib.hid (And.intro f0 ( And.intro f1 ( And.intro f2 ( And.intro f3 ( And.intro f4 ( And.intro f5 ( And.intro f6 ( And.intro f7 ( And.intro f8 ( And.intro f9 ( And.intro f10 ( And.intro f11 ( And.intro f12 ( And.intro f13 ( And.intro f14 ( And.intro f15 ( And.intro f16 ( And.intro f17 ( And.intro f18 ( And.intro f19 ( And.intro f20 ( And.intro f21 ( And.intro f23 (f25))))))))))))))))))))))))
            clear f0 f1 f2 f3 f4 f5 f6 f7 f8 f9 f10 f11 f12 f13 f14 f15 f16 f17 f18 f19 f20 f21 f23 f25 hun
            refine Ri9.wpOp_list rfl ?_
            go_wp2
            refine (HJ3.out _ _ _).2 ⟨fun qq => if qq = 6 then .int .i64 m' else v qq, by simp [e1, e5], (fun h => HFF.out.1 (by rw [getD_set_ne _ (by decide)] at h; exact h)), (fun h => HFF.out.2.1 (by rw [getD_set_ne _ (by decide)] at h; exact h)), (fun h => HFF.out.2.2.1 (by rw [getD_set_ne _ (by decide)] at h; exact h)), (fun h => HFF.out.2.2.2.1 (by rw [getD_set_ne _ (by decide)] at h; exact h)), (fun h => HFF.out.2.2.2.2.1 (by rw [getD_set_ne _ (by decide)] at h; exact h)), (fun h => HFF.out.2.2.2.2.2.1 (by rw [getD_set_ne _ (by decide)] at h; exact h)), (fun _ => rfl), (fun h => HFF.out.2.2.2.2.2.2.2.1 (by rw [getD_set_ne _ (by decide)] at h; exact h)), (fun h => HFF.out.2.2.2.2.2.2.2.2.1 (by rw [getD_set_ne _ (by decide)] at h; exact h)), (fun h => HFF.out.2.2.2.2.2.2.2.2.2.1 (by rw [getD_set_ne _ (by decide)] at h; exact h)), (fun h => HFF.out.2.2.2.2.2.2.2.2.2.2.1 (by rw [getD_set_ne _ (by decide)] at h; exact h)), (fun h => HFF.out.2.2.2.2.2.2.2.2.2.2.2.1 (by rw [getD_set_ne _ (by decide)] at h; exact h)), (fun h => HFF.out.2.2.2.2.2.2.2.2.2.2.2.2.1 (by rw [getD_set_ne _ (by decide)] at h; exact h)), (fun h => HFF.out.2.2.2.2.2.2.2.2.2.2.2.2.2.1 (by rw [getD_set_ne _ (by decide)] at h; exact h)), (fun h => HFF.out.2.2.2.2.2.2.2.2.2.2.2.2.2.2.1 (by rw [getD_set_ne _ (by decide)] at h; exact h)), (fun h => HFF.out.2.2.2.2.2.2.2.2.2.2.2.2.2.2.2.1 (by rw [getD_set_ne _ (by decide)] at h; exact h)), (fun h => HFF.out.2.2.2.2.2.2.2.2.2.2.2.2.2.2.2.2.1 (by rw [getD_set_ne _ (by decide)] at h; exact h)), (fun h => HFF.out.2.2.2.2.2.2.2.2.2.2.2.2.2.2.2.2.2.1 (by rw [getD_set_ne _ (by decide)] at h; exact h)), (fun h => HFF.out.2.2.2.2.2.2.2.2.2.2.2.2.2.2.2.2.2.2.1 (by rw [getD_set_ne _ (by decide)] at h; exact h)), (fun h => HFF.out.2.2.2.2.2.2.2.2.2.2.2.2.2.2.2.2.2.2.2.1 (by rw [getD_set_ne _ (by decide)] at h; exact h)), (fun h => HFF.out.2.2.2.2.2.2.2.2.2.2.2.2.2.2.2.2.2.2.2.2.1 (by rw [getD_set_ne _ (by decide)] at h; exact h)), (fun h => HFF.out.2.2.2.2.2.2.2.2.2.2.2.2.2.2.2.2.2.2.2.2.2.1 (by rw [getD_set_ne _ (by decide)] at h; exact h)), (fun h => HFF.out.2.2.2.2.2.2.2.2.2.2.2.2.2.2.2.2.2.2.2.2.2.2.1 (by rw [getD_set_ne _ (by decide)] at h; exact h)), (fun h => HFF.out.2.2.2.2.2.2.2.2.2.2.2.2.2.2.2.2.2.2.2.2.2.2.2 (by rw [getD_set_ne _ (by decide)] at h; exact h)), ?_⟩
            rw [getD_set_ne (i := 6) (j := 22) _ (by decide)]
            rw [getD_set_ne (i := 6) (j := 24) _ (by decide)]
            rw [getD_set_ne (i := 6) (j := 26) _ (by decide)]
            exact HW.out
          · cases ho
            have HUN := Lib.hid hun
            have HFF := Lib.hid (And.intro f0 ( And.intro f1 ( And.intro f2 ( And.intro f3 ( And.intro f4 ( And.intro f5 ( And.intro f6 ( And.intro f7 ( And.intro f8 ( And.intro f9 ( And.intro f10 ( And.intro f11 ( And.intro f12 ( And.intro f13 ( And.intro f14 ( And.intro f15 ( And.intro f16 ( And.intro f17 ( And.intro f18 ( And.intro f19 ( And.intro f20 ( And.intro f21 ( And.intro f23 (f25))))))))))))))))))))))))
            clear f0 f1 f2 f3 f4 f5 f6 f7 f8 f9 f10 f11 f12 f13 f14 f15 f16 f17 f18 f19 f20 f21 f23 f25 hun
            refine Ri9.wpOp_list rfl ?_
            go_wp2
            refine (HJ3.out _ _ _).2 ⟨fun qq => if qq = 7 then .pointer (some ⟨w.heap.size + 1, 3, none⟩) else v qq, by simp [], (fun h => HFF.out.1 (by rw [getD_set_ne _ (by decide)] at h; exact h)), (fun h => HFF.out.2.1 (by rw [getD_set_ne _ (by decide)] at h; exact h)), (fun h => HFF.out.2.2.1 (by rw [getD_set_ne _ (by decide)] at h; exact h)), (fun h => HFF.out.2.2.2.1 (by rw [getD_set_ne _ (by decide)] at h; exact h)), (fun h => HFF.out.2.2.2.2.1 (by rw [getD_set_ne _ (by decide)] at h; exact h)), (fun h => HFF.out.2.2.2.2.2.1 (by rw [getD_set_ne _ (by decide)] at h; exact h)), (fun h => HFF.out.2.2.2.2.2.2.1 (by rw [getD_set_ne _ (by decide)] at h; exact h)), (fun _ => rfl), (fun h => HFF.out.2.2.2.2.2.2.2.2.1 (by rw [getD_set_ne _ (by decide)] at h; exact h)), (fun h => HFF.out.2.2.2.2.2.2.2.2.2.1 (by rw [getD_set_ne _ (by decide)] at h; exact h)), (fun h => HFF.out.2.2.2.2.2.2.2.2.2.2.1 (by rw [getD_set_ne _ (by decide)] at h; exact h)), (fun h => HFF.out.2.2.2.2.2.2.2.2.2.2.2.1 (by rw [getD_set_ne _ (by decide)] at h; exact h)), (fun h => HFF.out.2.2.2.2.2.2.2.2.2.2.2.2.1 (by rw [getD_set_ne _ (by decide)] at h; exact h)), (fun h => HFF.out.2.2.2.2.2.2.2.2.2.2.2.2.2.1 (by rw [getD_set_ne _ (by decide)] at h; exact h)), (fun h => HFF.out.2.2.2.2.2.2.2.2.2.2.2.2.2.2.1 (by rw [getD_set_ne _ (by decide)] at h; exact h)), (fun h => HFF.out.2.2.2.2.2.2.2.2.2.2.2.2.2.2.2.1 (by rw [getD_set_ne _ (by decide)] at h; exact h)), (fun h => HFF.out.2.2.2.2.2.2.2.2.2.2.2.2.2.2.2.2.1 (by rw [getD_set_ne _ (by decide)] at h; exact h)), (fun h => HFF.out.2.2.2.2.2.2.2.2.2.2.2.2.2.2.2.2.2.1 (by rw [getD_set_ne _ (by decide)] at h; exact h)), (fun h => HFF.out.2.2.2.2.2.2.2.2.2.2.2.2.2.2.2.2.2.2.1 (by rw [getD_set_ne _ (by decide)] at h; exact h)), (fun h => HFF.out.2.2.2.2.2.2.2.2.2.2.2.2.2.2.2.2.2.2.2.1 (by rw [getD_set_ne _ (by decide)] at h; exact h)), (fun h => HFF.out.2.2.2.2.2.2.2.2.2.2.2.2.2.2.2.2.2.2.2.2.1 (by rw [getD_set_ne _ (by decide)] at h; exact h)), (fun h => HFF.out.2.2.2.2.2.2.2.2.2.2.2.2.2.2.2.2.2.2.2.2.2.1 (by rw [getD_set_ne _ (by decide)] at h; exact h)), (fun h => HFF.out.2.2.2.2.2.2.2.2.2.2.2.2.2.2.2.2.2.2.2.2.2.2.1 (by rw [getD_set_ne _ (by decide)] at h; exact h)), (fun h => HFF.out.2.2.2.2.2.2.2.2.2.2.2.2.2.2.2.2.2.2.2.2.2.2.2 (by rw [getD_set_ne _ (by decide)] at h; exact h)), ?_⟩
            rw [getD_set_ne (i := 7) (j := 22) _ (by decide)]
            rw [getD_set_ne (i := 7) (j := 24) _ (by decide)]
            rw [getD_set_ne (i := 7) (j := 26) _ (by decide)]
            exact HW.out
          · cases ho
            have e7 := f7 (HAF.out ⟨7, .data⟩ (by simp) rfl)
            have HUN := Lib.hid hun
            have n24 : li.getD 24 false = false := by
              cases hx : li.getD 24 false
              · rfl
              · rw [get_def (HC.out 24 _ rfl hx ⟨8, .phase⟩ (by simp) rfl)] at hun; cases hun
            have cc := (HW.out.1.cell 3)
            simp only [hcs, n24, List.getElem?_toArray, List.getElem?_cons_zero, List.getElem?_cons_succ, Bool.false_eq_true, if_false] at cc
            have HFF := Lib.hid (And.intro f0 ( And.intro f1 ( And.intro f2 ( And.intro f3 ( And.intro f4 ( And.intro f5 ( And.intro f6 ( And.intro f7 ( And.intro f8 ( And.intro f9 ( And.intro f10 ( And.intro f11 ( And.intro f12 ( And.intro f13 ( And.intro f14 ( And.intro f15 ( And.intro f16 ( And.intro f17 ( And.intro f18 ( And.intro f19 ( And.intro f20 ( And.intro f21 ( And.intro f23 (f25))))))))))))))))))))))))
            clear f0 f1 f2 f3 f4 f5 f6 f7 f8 f9 f10 f11 f12 f13 f14 f15 f16 f17 f18 f19 f20 f21 f23 f25 hun
            refine Ri9.wpOp_list rfl ?_
            go_wp2
            refine (HJ3.out _ _ _).2 ⟨fun qq => if qq = 8 then .int .i64 M else v qq, by simp [e7], (fun h => HFF.out.1 (by rw [getD_set_ne _ (by decide)] at h; exact h)), (fun h => HFF.out.2.1 (by rw [getD_set_ne _ (by decide)] at h; exact h)), (fun h => HFF.out.2.2.1 (by rw [getD_set_ne _ (by decide)] at h; exact h)), (fun h => HFF.out.2.2.2.1 (by rw [getD_set_ne _ (by decide)] at h; exact h)), (fun h => HFF.out.2.2.2.2.1 (by rw [getD_set_ne _ (by decide)] at h; exact h)), (fun h => HFF.out.2.2.2.2.2.1 (by rw [getD_set_ne _ (by decide)] at h; exact h)), (fun h => HFF.out.2.2.2.2.2.2.1 (by rw [getD_set_ne _ (by decide)] at h; exact h)), (fun h => HFF.out.2.2.2.2.2.2.2.1 (by rw [getD_set_ne _ (by decide)] at h; exact h)), (fun _ => rfl), (fun h => HFF.out.2.2.2.2.2.2.2.2.2.1 (by rw [getD_set_ne _ (by decide)] at h; exact h)), (fun h => HFF.out.2.2.2.2.2.2.2.2.2.2.1 (by rw [getD_set_ne _ (by decide)] at h; exact h)), (fun h => HFF.out.2.2.2.2.2.2.2.2.2.2.2.1 (by rw [getD_set_ne _ (by decide)] at h; exact h)), (fun h => HFF.out.2.2.2.2.2.2.2.2.2.2.2.2.1 (by rw [getD_set_ne _ (by decide)] at h; exact h)), (fun h => HFF.out.2.2.2.2.2.2.2.2.2.2.2.2.2.1 (by rw [getD_set_ne _ (by decide)] at h; exact h)), (fun h => HFF.out.2.2.2.2.2.2.2.2.2.2.2.2.2.2.1 (by rw [getD_set_ne _ (by decide)] at h; exact h)), (fun h => HFF.out.2.2.2.2.2.2.2.2.2.2.2.2.2.2.2.1 (by rw [getD_set_ne _ (by decide)] at h; exact h)), (fun h => HFF.out.2.2.2.2.2.2.2.2.2.2.2.2.2.2.2.2.1 (by rw [getD_set_ne _ (by decide)] at h; exact h)), (fun h => HFF.out.2.2.2.2.2.2.2.2.2.2.2.2.2.2.2.2.2.1 (by rw [getD_set_ne _ (by decide)] at h; exact h)), (fun h => HFF.out.2.2.2.2.2.2.2.2.2.2.2.2.2.2.2.2.2.2.1 (by rw [getD_set_ne _ (by decide)] at h; exact h)), (fun h => HFF.out.2.2.2.2.2.2.2.2.2.2.2.2.2.2.2.2.2.2.2.1 (by rw [getD_set_ne _ (by decide)] at h; exact h)), (fun h => HFF.out.2.2.2.2.2.2.2.2.2.2.2.2.2.2.2.2.2.2.2.2.1 (by rw [getD_set_ne _ (by decide)] at h; exact h)), (fun h => HFF.out.2.2.2.2.2.2.2.2.2.2.2.2.2.2.2.2.2.2.2.2.2.1 (by rw [getD_set_ne _ (by decide)] at h; exact h)), (fun h => HFF.out.2.2.2.2.2.2.2.2.2.2.2.2.2.2.2.2.2.2.2.2.2.2.1 (by rw [getD_set_ne _ (by decide)] at h; exact h)), (fun h => HFF.out.2.2.2.2.2.2.2.2.2.2.2.2.2.2.2.2.2.2.2.2.2.2.2 (by rw [getD_set_ne _ (by decide)] at h; exact h)), ?_⟩
            rw [getD_set_ne (i := 8) (j := 22) _ (by decide)]
            rw [getD_set_ne (i := 8) (j := 24) _ (by decide)]
            rw [getD_set_ne (i := 8) (j := 26) _ (by decide)]
            exact HW.out
          · cases ho
            have HUN := Lib.hid hun
            have HFF := Lib.hid (And.intro f0 ( And.intro f1 ( And.intro f2 ( And.intro f3 ( And.intro f4 ( And.intro f5 ( And.intro f6 ( And.intro f7 ( And.intro f8 ( And.intro f9 ( And.intro f10 ( And.intro f11 ( And.intro f12 ( And.intro f13 ( And.intro f14 ( And.intro f15 ( And.intro f16 ( And.intro f17 ( And.intro f18 ( And.intro f19 ( And.intro f20 ( And.intro f21 ( And.intro f23 (f25))))))))))))))))))))))))
            clear f0 f1 f2 f3 f4 f5 f6 f7 f8 f9 f10 f11 f12 f13 f14 f15 f16 f17 f18 f19 f20 f21 f23 f25 hun
            refine Ri9.wpOp_list rfl ?_
            go_wp2
            refine (HJ3.out _ _ _).2 ⟨fun qq => if qq = 9 then .slice (some ad) n c else v qq, by simp [], (fun h => HFF.out.1 (by rw [getD_set_ne _ (by decide)] at h; exact h)), (fun h => HFF.out.2.1 (by rw [getD_set_ne _ (by decide)] at h; exact h)), (fun h => HFF.out.2.2.1 (by rw [getD_set_ne _ (by decide)] at h; exact h)), (fun h => HFF.out.2.2.2.1 (by rw [getD_set_ne _ (by decide)] at h; exact h)), (fun h => HFF.out.2.2.2.2.1 (by rw [getD_set_ne _ (by decide)] at h; exact h)), (fun h => HFF.out.2.2.2.2.2.1 (by rw [getD_set_ne _ (by decide)] at h; exact h)), (fun h => HFF.out.2.2.2.2.2.2.1 (by rw [getD_set_ne _ (by decide)] at h; exact h)), (fun h => HFF.out.2.2.2.2.2.2.2.1 (by rw [getD_set_ne _ (by decide)] at h; exact h)), (fun h => HFF.out.2.2.2.2.2.2.2.2.1 (by rw [getD_set_ne _ (by decide)] at h; exact h)), (fun _ => rfl), (fun h => HFF.out.2.2.2.2.2.2.2.2.2.2.1 (by rw [getD_set_ne _ (by decide)] at h; exact h)), (fun h => HFF.out.2.2.2.2.2.2.2.2.2.2.2.1 (by rw [getD_set_ne _ (by decide)] at h; exact h)), (fun h => HFF.out.2.2.2.2.2.2.2.2.2.2.2.2.1 (by rw [getD_set_ne _ (by decide)] at h; exact h)), (fun h => HFF.out.2.2.2.2.2.2.2.2.2.2.2.2.2.1 (by rw [getD_set_ne _ (by decide)] at h; exact h)), (fun h => HFF.out.2.2.2.2.2.2.2.2.2.2.2.2.2.2.1 (by rw [getD_set_ne _ (by decide)] at h; exact h)), (fun h => HFF.out.2.2.2.2.2.2.2.2.2.2.2.2.2.2.2.1 (by rw [getD_set_ne _ (by decide)] at h; exact h)), (fun h => HFF.out.2.2.2.2.2.2.2.2.2.2.2.2.2.2.2.2.1 (by rw [getD_set_ne _ (by decide)] at h; exact h)), (fun h => HFF.out.2.2.2.2.2.2.2.2.2.2.2.2.2.2.2.2.2.1 (by rw [getD_set_ne _ (by decide)] at h; exact h)), (fun h => HFF.out.2.2.2.2.2.2.2.2.2.2.2.2.2.2.2.2.2.2.1 (by rw [getD_set_ne _ (by decide)] at h; exact h)), (fun h => HFF.out.2.2.2.2.2.2.2.2.2.2.2.2.2.2.2.2.2.2.2.1 (by rw [getD_set_ne _ (by decide)] at h; exact h)), (fun h => HFF.out.2.2.2.2.2.2.2.2.2.2.2.2.2.2.2.2.2.2.2.2.1 (by rw [getD_set_ne _ (by decide)] at h; exact h)), (fun h => HFF.out.2.2.2.2.2.2.2.2.2.2.2.2.2.2.2.2.2.2.2.2.2.1 (by rw [getD_set_ne _ (by decide)] at h; exact h)), (fun h => HFF.out.2.2.2.2.2.2.2.2.2.2.2.2.2.2.2.2.2.2.2.2.2.2.1 (by rw [getD_set_ne _ (by decide)] at h; exact h)), (fun h => HFF.out.2.2.2.2.2.2.2.2.2.2.2.2.2.2.2.2.2.2.2.2.2.2.2 (by rw [getD_set_ne _ (by decide)] at h; exact h)), ?_⟩
            rw [getD_set_ne (i := 9) (j := 22) _ (by decide)]
            rw [getD_set_ne (i := 9) (j := 24) _ (by decide)]
            rw [getD_set_ne (i := 9) (j := 26) _ (by decide)]
            exact HW.out
          · cases ho
            have HUN := Lib.hid hun
            have HFF := Lib.hid (And.intro f0 ( And.intro f1 ( And.intro f2 ( And.intro f3 ( And.intro f4 ( And.intro f5 ( And.intro f6 ( And.intro f7 ( And.intro f8 ( And.intro f9 ( And.intro f10 ( And.intro f11 ( And.intro f12 ( And.intro f13 ( And.intro f14 ( And.intro f15 ( And.intro f16 ( And.intro f17 ( And.intro f18 ( And.intro f19 ( And.intro f20 ( And.intro f21 ( And.intro f23 (f25))))))))))))))))))))))))
            clear f0 f1 f2 f3 f4 f5 f6 f7 f8 f9 f10 f11 f12 f13 f14 f15 f16 f17 f18 f19 f20 f21 f23 f25 hun
            refine Ri9.wpOp_list rfl ?_
            go_wp2
            refine (HJ3.out _ _ _).2 ⟨fun qq => if qq = 10 then .int .i64 (k : Int) else v qq, by simp [], (fun h => HFF.out.1 (by rw [getD_set_ne _ (by decide)] at h; exact h)), (fun h => HFF.out.2.1 (by rw [getD_set_ne _ (by decide)] at h; exact h)), (fun h => HFF.out.2.2.1 (by rw [getD_set_ne _ (by decide)] at h; exact h)), (fun h => HFF.out.2.2.2.1 (by rw [getD_set_ne _ (by decide)] at h; exact h)), (fun h => HFF.out.2.2.2.2.1 (by rw [getD_set_ne _ (by decide)] at h; exact h)), (fun h => HFF.out.2.2.2.2.2.1 (by rw [getD_set_ne _ (by decide)] at h; exact h)), (fun h => HFF.out.2.2.2.2.2.2.1 (by rw [getD_set_ne _ (by decide)] at h; exact h)), (fun h => HFF.out.2.2.2.2.2.2.2.1 (by rw [getD_set_ne _ (by decide)] at h; exact h)), (fun h => HFF.out.2.2.2.2.2.2.2.2.1 (by rw [getD_set_ne _ (by decide)] at h; exact h)), (fun h => HFF.out.2.2.2.2.2.2.2.2.2.1 (by rw [getD_set_ne _ (by decide)] at h; exact h)), (fun _ => rfl), (fun h => HFF.out.2.2.2.2.2.2.2.2.2.2.2.1 (by rw [getD_set_ne _ (by decide)] at h; exact h)), (fun h => HFF.out.2.2.2.2.2.2.2.2.2.2.2.2.1 (by rw [getD_set_ne _ (by decide)] at h; exact h)), (fun h => HFF.out.2.2.2.2.2.2.2.2.2.2.2.2.2.1 (by rw [getD_set_ne _ (by decide)] at h; exact h)), (fun h => HFF.out.2.2.2.2.2.2.2.2.2.2.2.2.2.2.1 (by rw [getD_set_ne _ (by decide)] at h; exact h)), (fun h => HFF.out.2.2.2.2.2.2.2.2.2.2.2.2.2.2.2.1 (by rw [getD_set_ne _ (by decide)] at h; exact h)), (fun h => HFF.out.2.2.2.2.2.2.2.2.2.2.2.2.2.2.2.2.1 (by rw [getD_set_ne _ (by decide)] at h; exact h)), (fun h => HFF.out.2.2.2.2.2.2.2.2.2.2.2.2.2.2.2.2.2.1 (by rw [getD_set_ne _ (by decide)] at h; exact h)), (fun h => HFF.out.2.2.2.2.2.2.2.2.2.2.2.2.2.2.2.2.2.2.1 (by rw [getD_set_ne _ (by decide)] at h; exact h)), (fun h => HFF.out.2.2.2.2.2.2.2.2.2.2.2.2.2.2.2.2.2.2.2.1 (by rw [getD_set_ne _ (by decide)] at h; exact h)), (fun h => HFF.out.2.2.2.2.2.2.2.2.2.2.2.2.2.2.2.2.2.2.2.2.1 (by rw [getD_set_ne _ (by decide)] at h; exact h)), (fun h => HFF.out.2.2.2.2.2.2.2.2.2.2.2.2.2.2.2.2.2.2.2.2.2.1 (by rw [getD_set_ne _ (by decide)] at h; exact h)), (fun h => HFF.out.2.2.2.2.2.2.2.2.2.2.2.2.2.2.2.2.2.2.2.2.2.2.1 (by rw [getD_set_ne _ (by decide)] at h; exact h)), (fun h => HFF.out.2.2.2.2.2.2.2.2.2.2.2.2.2.2.2.2.2.2.2.2.2.2.2 (by rw [getD_set_ne _ (by decide)] at h; exact h)), ?_⟩
            rw [getD_set_ne (i := 10) (j := 22) _ (by decide)]
            rw [getD_set_ne (i := 10) (j := 24) _ (by decide)]
            rw [getD_set_ne (i := 10) (j := 26) _ (by decide)]
            exact HW.out
          · cases ho
            have e9 := f9 (HAF.out ⟨9, .data⟩ (by simp) rfl)
            have e10 := f10 (HAF.out ⟨10, .data⟩ (by simp) rfl)
            have HUN := Lib.hid hun
            have HFF := Lib.hid (And.intro f0 ( And.intro f1 ( And.intro f2 ( And.intro f3 ( And.intro f4 ( And.intro f5 ( And.intro f6 ( And.intro f7 ( And.intro f8 ( And.intro f9 ( And.intro f10 ( And.intro f11 ( And.intro f12 ( And.intro f13 ( And.intro f14 ( And.intro f15 ( And.intro f16 ( And.intro f17 ( And.intro f18 ( And.intro f19 ( And.intro f20 ( And.intro f21 ( And.intro f23 (f25))))))))))))))))))))))))
            clear f0 f1 f2 f3 f4 f5 f6 f7 f8 f9 f10 f11 f12 f13 f14 f15 f16 f17 f18 f19 f20 f21 f23 f25 hun
            refine Ri9.wpOp_list rfl ?_
            go_wp2
            refine (HJ3.out _ _ _).2 ⟨fun qq => if qq = 11 then .pointer (some (ad.add k)) else v qq, by simp [e9, e10], (fun h => HFF.out.1 (by rw [getD_set_ne _ (by decide)] at h; exact h)), (fun h => HFF.out.2.1 (by rw [getD_set_ne _ (by decide)] at h; exact h)), (fun h => HFF.out.2.2.1 (by rw [getD_set_ne _ (by decide)] at h; exact h)), (fun h => HFF.out.2.2.2.1 (by rw [getD_set_ne _ (by decide)] at h; exact h)), (fun h => HFF.out.2.2.2.2.1 (by rw [getD_set_ne _ (by decide)] at h; exact h)), (fun h => HFF.out.2.2.2.2.2.1 (by rw [getD_set_ne _ (by decide)] at h; exact h)), (fun h => HFF.out.2.2.2.2.2.2.1 (by rw [getD_set_ne _ (by decide)] at h; exact h)), (fun h => HFF.out.2.2.2.2.2.2.2.1 (by rw [getD_set_ne _ (by decide)] at h; exact h)), (fun h => HFF.out.2.2.2.2.2.2.2.2.1 (by rw [getD_set_ne _ (by decide)] at h; exact h)), (fun h => HFF.out.2.2.2.2.2.2.2.2.2.1 (by rw [getD_set_ne _ (by decide)] at h; exact h)), (fun h => HFF.out.2.2.2.2.2.2.2.2.2.2.1 (by rw [getD_set_ne _ (by decide)] at h; exact h)), (fun _ => rfl), (fun h => HFF.out.2.2.2.2.2.2.2.2.2.2.2.2.1 (by rw [getD_set_ne _ (by decide)] at h; exact h)), (fun h => HFF.out.2.2.2.2.2.2.2.2.2.2.2.2.2.1 (by rw [getD_set_ne _ (by decide)] at h; exact h)), (fun h => HFF.out.2.2.2.2.2.2.2.2.2.2.2.2.2.2.1 (by rw [getD_set_ne _ (by decide)] at h; exact h)), (fun h => HFF.out.2.2.2.2.2.2.2.2.2.2.2.2.2.2.2.1 (by rw [getD_set_ne _ (by decide)] at h; exact h)), (fun h => HFF.out.2.2.2.2.2.2.2.2.2.2.2.2.2.2.2.2.1 (by rw [getD_set_ne _ (by decide)] at h; exact h)), (fun h => HFF.out.2.2.2.2.2.2.2.2.2.2.2.2.2.2.2.2.2.1 (by rw [getD_set_ne _ (by decide)] at h; exact h)), (fun h => HFF.out.2.2.2.2.2.2.2.2.2.2.2.2.2.2.2.2.2.2.1 (by rw [getD_set_ne _ (by decide)] at h; exact h)), (fun h => HFF.out.2.2.2.2.2.2.2.2.2.2.2.2.2.2.2.2.2.2.2.1 (by rw [getD_set_ne _ (by decide)] at h; exact h)), (fun h => HFF.out.2.2.2.2.2.2.2.2.2.2.2.2.2.2.2.2.2.2.2.2.1 (by rw [getD_set_ne _ (by decide)] at h; exact h)), (fun h => HFF.out.2.2.2.2.2.2.2.2.2.2.2.2.2.2.2.2.2.2.2.2.2.1 (by rw [getD_set_ne _ (by decide)] at h; exact h)), (fun h => HFF.out.2.2.2.2.2.2.2.2.2.2.2.2.2.2.2.2.2.2.2.2.2.2.1 (by rw [getD_set_ne _ (by decide)] at h; exact h)), (fun h => HFF.out.2.2.2.2.2.2.2.2.2.2.2.2.2.2.2.2.2.2.2.2.2.2.2 (by rw [getD_set_ne _ (by decide)] at h; exact h)), ?_⟩
            rw [getD_set_ne (i := 11) (j := 22) _ (by decide)]
            rw [getD_set_ne (i := 11) (j := 24) _ (by decide)]
            rw [getD_set_ne (i := 11) (j := 26) _ (by decide)]
            exact HW.out
          · cases ho
            have e11 := f11 (HAF.out ⟨11, .data⟩ (by simp) rfl)
            have HUN := Lib.hid hun
            have cc := HW.out.2.2.kp cz
            have HFF := Lib.hid (And.intro f0 ( And.intro f1 ( And.intro f2 ( And.intro f3 ( And.intro f4 ( And.intro f5 ( And.intro f6 ( And.intro f7 ( And.intro f8 ( And.intro f9 ( And.intro f10 ( And.intro f11 ( And.intro f12 ( And.intro f13 ( And.intro f14 ( And.intro f15 ( And.intro f16 ( And.intro f17 ( And.intro f18 ( And.intro f19 ( And.intro f20 ( And.intro f21 ( And.intro f23 (f25))))))))))))))))))))))))
            clear f0 f1 f2 f3 f4 f5 f6 f7 f8 f9 f10 f11 f12 f13 f14 f15 f16 f17 f18 f19 f20 f21 f23 f25 hun
            refine Ri9.wpOp_list rfl ?_
            go_wp2
            refine (HJ3.out _ _ _).2 ⟨fun qq => if qq = 12 then .int .i64 z else v qq, by simp [e11], (fun h => HFF.out.1 (by rw [getD_set_ne _ (by decide)] at h; exact h)), (fun h => HFF.out.2.1 (by rw [getD_set_ne _ (by decide)] at h; exact h)), (fun h => HFF.out.2.2.1 (by rw [getD_set_ne _ (by decide)] at h; exact h)), (fun h => HFF.out.2.2.2.1 (by rw [getD_set_ne _ (by decide)] at h; exact h)), (fun h => HFF.out.2.2.2.2.1 (by rw [getD_set_ne _ (by decide)] at h; exact h)), (fun h => HFF.out.2.2.2.2.2.1 (by rw [getD_set_ne _ (by decide)] at h; exact h)), (fun h => HFF.out.2.2.2.2.2.2.1 (by rw [getD_set_ne _ (by decide)] at h; exact h)), (fun h => HFF.out.2.2.2.2.2.2.2.1 (by rw [getD_set_ne _ (by decide)] at h; exact h)), (fun h => HFF.out.2.2.2.2.2.2.2.2.1 (by rw [getD_set_ne _ (by decide)] at h; exact h)), (fun h => HFF.out.2.2.2.2.2.2.2.2.2.1 (by rw [getD_set_ne _ (by decide)] at h; exact h)), (fun h => HFF.out.2.2.2.2.2.2.2.2.2.2.1 (by rw [getD_set_ne _ (by decide)] at h; exact h)), (fun h => HFF.out.2.2.2.2.2.2.2.2.2.2.2.1 (by rw [getD_set_ne _ (by decide)] at h; exact h)), (fun _ => rfl), (fun h => HFF.out.2.2.2.2.2.2.2.2.2.2.2.2.2.1 (by rw [getD_set_ne _ (by decide)] at h; exact h)), (fun h => HFF.out.2.2.2.2.2.2.2.2.2.2.2.2.2.2.1 (by rw [getD_set_ne _ (by decide)] at h; exact h)), (fun h => HFF.out.2.2.2.2.2.2.2.2.2.2.2.2.2.2.2.1 (by rw [getD_set_ne _ (by decide)] at h; exact h)), (fun h => HFF.out.2.2.2.2.2.2.2.2.2.2.2.2.2.2.2.2.1 (by rw [getD_set_ne _ (by decide)] at h; exact h)), (fun h => HFF.out.2.2.2.2.2.2.2.2.2.2.2.2.2.2.2.2.2.1 (by rw [getD_set_ne _ (by decide)] at h; exact h)), (fun h => HFF.out.2.2.2.2.2.2.2.2.2.2.2.2.2.2.2.2.2.2.1 (by rw [getD_set_ne _ (by decide)] at h; exact h)), (fun h => HFF.out.2.2.2.2.2.2.2.2.2.2.2.2.2.2.2.2.2.2.2.1 (by rw [getD_set_ne _ (by decide)] at h; exact h)), (fun h => HFF.out.2.2.2.2.2.2.2.2.2.2.2.2.2.2.2.2.2.2.2.2.1 (by rw [getD_set_ne _ (by decide)] at h; exact h)), (fun h => HFF.out.2.2.2.2.2.2.2.2.2.2.2.2.2.2.2.2.2.2.2.2.2.1 (by rw [getD_set_ne _ (by decide)] at h; exact h)), (fun h => HFF.out.2.2.2.2.2.2.2.2.2.2.2.2.2.2.2.2.2.2.2.2.2.2.1 (by rw [getD_set_ne _ (by decide)] at h; exact h)), (fun h => HFF.out.2.2.2.2.2.2.2.2.2.2.2.2.2.2.2.2.2.2.2.2.2.2.2 (by rw [getD_set_ne _ (by decide)] at h; exact h)), ?_⟩
            rw [getD_set_ne (i := 12) (j := 22) _ (by decide)]
            rw [getD_set_ne (i := 12) (j := 24) _ (by decide)]
            rw [getD_set_ne (i := 12) (j := 26) _ (by decide)]
            exact HW.out
          · cases ho
            have e8 := f8 (HAF.out ⟨8, .data⟩ (by simp) rfl)
            have e12 := f12 (HAF.out ⟨12, .data⟩ (by simp) rfl)
            have HUN := Lib.hid hun
            have HFF := Lib.hid (And.intro f0 ( And.intro f1 ( And.intro f2 ( And.intro f3 ( And.intro f4 ( And.intro f5 ( And.intro f6 ( And.intro f7 ( And.intro f8 ( And.intro f9 ( And.intro f10 ( And.intro f11 ( And.intro f12 ( And.intro f13 ( And.intro f14 ( And.intro f15 ( And.intro f16 ( And.intro f17 ( And.intro f18 ( And.intro f19 ( And.intro f20 ( And.intro f21 ( And.intro f23 (f25))))))))))))))))))))))))
            clear f0 f1 f2 f3 f4 f5 f6 f7 f8 f9 f10 f11 f12 f13 f14 f15 f16 f17 f18 f19 f20 f21 f23 f25 hun
            refine Ri9.wpOp_list rfl ?_
            go_wp2
            refine (HJ3.out _ _ _).2 ⟨fun qq => if qq = 13 then .int .i64 M' else v qq, by simp [e8, e12], (fun h => HFF.out.1 (by rw [getD_set_ne _ (by decide)] at h; exact h)), (fun h => HFF.out.2.1 (by rw [getD_set_ne _ (by decide)] at h; exact h)), (fun h => HFF.out.2.2.1 (by rw [getD_set_ne _ (by decide)] at h; exact h)), (fun h => HFF.out.2.2.2.1 (by rw [getD_set_ne _ (by decide)] at h; exact h)), (fun h => HFF.out.2.2.2.2.1 (by rw [getD_set_ne _ (by decide)] at h; exact h)), (fun h => HFF.out.2.2.2.2.2.1 (by rw [getD_set_ne _ (by decide)] at h; exact h)), (fun h => HFF.out.2.2.2.2.2.2.1 (by rw [getD_set_ne _ (by decide)] at h; exact h)), (fun h => HFF.out.2.2.2.2.2.2.2.1 (by rw [getD_set_ne _ (by decide)] at h; exact h)), (fun h => HFF.out.2.2.2.2.2.2.2.2.1 (by rw [getD_set_ne _ (by decide)] at h; exact h)), (fun h => HFF.out.2.2.2.2.2.2.2.2.2.1 (by rw [getD_set_ne _ (by decide)] at h; exact h)), (fun h => HFF.out.2.2.2.2.2.2.2.2.2.2.1 (by rw [getD_set_ne _ (by decide)] at h; exact h)), (fun h => HFF.out.2.2.2.2.2.2.2.2.2.2.2.1 (by rw [getD_set_ne _ (by decide)] at h; exact h)), (fun h => HFF.out.2.2.2.2.2.2.2.2.2.2.2.2.1 (by rw [getD_set_ne _ (by decide)] at h; exact h)), (fun _ => rfl), (fun h => HFF.out.2.2.2.2.2.2.2.2.2.2.2.2.2.2.1 (by rw [getD_set_ne _ (by decide)] at h; exact h)), (fun h => HFF.out.2.2.2.2.2.2.2.2.2.2.2.2.2.2.2.1 (by rw [getD_set_ne _ (by decide)] at h; exact h)), (fun h => HFF.out.2.2.2.2.2.2.2.2.2.2.2.2.2.2.2.2.1 (by rw [getD_set_ne _ (by decide)] at h; exact h)), (fun h => HFF.out.2.2.2.2.2.2.2.2.2.2.2.2.2.2.2.2.2.1 (by rw [getD_set_ne _ (by decide)] at h; exact h)), (fun h => HFF.out.2.2.2.2.2.2.2.2.2.2.2.2.2.2.2.2.2.2.1 (by rw [getD_set_ne _ (by decide)] at h; exact h)), (fun h => HFF.out.2.2.2.2.2.2.2.2.2.2.2.2.2.2.2.2.2.2.2.1 (by rw [getD_set_ne _ (by decide)] at h; exact h)), (fun h => HFF.out.2.2.2.2.2.2.2.2.2.2.2.2.2.2.2.2.2.2.2.2.1 (by rw [getD_set_ne _ (by decide)] at h; exact h)), (fun h => HFF.out.2.2.2.2.2.2.2.2.2.2.2.2.2.2.2.2.2.2.2.2.2.1 (by rw [getD_set_ne _ (by decide)] at h; exact h)), (fun h => HFF.out.2.2.2.2.2.2.2.2.2.2.2.2.2.2.2.2.2.2.2.2.2.2.1 (by rw [getD_set_ne _ (by decide)] at h; exact h)), (fun h => HFF.out.2.2.2.2.2.2.2.2.2.2.2.2.2.2.2.2.2.2.2.2.2.2.2 (by rw [getD_set_ne _ (by decide)] at h; exact h)), ?_⟩
            rw [getD_set_ne (i := 13) (j := 22) _ (by decide)]
            rw [getD_set_ne (i := 13) (j := 24) _ (by decide)]
            rw [getD_set_ne (i := 13) (j := 26) _ (by decide)]
            exact HW.out
          · cases ho
            have HUN := Lib.hid hun
            have HFF := Lib.hid (And.intro f0 ( And.intro f1 ( And.intro f2 ( And.intro f3 ( And.intro f4 ( And.intro f5 ( And.intro f6 ( And.intro f7 ( And.intro f8 ( And.intro f9 ( And.intro f10 ( And.intro f11 ( And.intro f12 ( And.intro f13 ( And.intro f14 ( And.intro f15 ( And.intro f16 ( And.intro f17 ( And.intro f18 ( And.intro f19 ( And.intro f20 ( And.intro f21 ( And.intro f23 (f25))))))))))))))))))))))))
            clear f0 f1 f2 f3 f4 f5 f6 f7 f8 f9 f10 f11 f12 f13 f14 f15 f16 f17 f18 f19 f20 f21 f23 f25 hun
            refine Ri9.wpOp_list rfl ?_
            go_wp2
            refine (HJ3.out _ _ _).2 ⟨fun qq => if qq = 14 then .pointer (some ⟨w.heap.size + 1, 4, none⟩) else v qq, by simp [], (fun h => HFF.out.1 (by rw [getD_set_ne _ (by decide)] at h; exact h)), (fun h => HFF.out.2.1 (by rw [getD_set_ne _ (by decide)] at h; exact h)), (fun h => HFF.out.2.2.1 (by rw [getD_set_ne _ (by decide)] at h; exact h)), (fun h => HFF.out.2.2.2.1 (by rw [getD_set_ne _ (by decide)] at h; exact h)), (fun h => HFF.out.2.2.2.2.1 (by rw [getD_set_ne _ (by decide)] at h; exact h)), (fun h => HFF.out.2.2.2.2.2.1 (by rw [getD_set_ne _ (by decide)] at h; exact h)), (fun h => HFF.out.2.2.2.2.2.2.1 (by rw [getD_set_ne _ (by decide)] at h; exact h)), (fun h => HFF.out.2.2.2.2.2.2.2.1 (by rw [getD_set_ne _ (by decide)] at h; exact h)), (fun h => HFF.out.2.2.2.2.2.2.2.2.1 (by rw [getD_set_ne _ (by decide)] at h; exact h)), (fun h => HFF.out.2.2.2.2.2.2.2.2.2.1 (by rw [getD_set_ne _ (by decide)] at h; exact h)), (fun h => HFF.out.2.2.2.2.2.2.2.2.2.2.1 (by rw [getD_set_ne _ (by decide)] at h; exact h)), (fun h => HFF.out.2.2.2.2.2.2.2.2.2.2.2.1 (by rw [getD_set_ne _ (by decide)] at h; exact h)), (fun h => HFF.out.2.2.2.2.2.2.2.2.2.2.2.2.1 (by rw [getD_set_ne _ (by decide)] at h; exact h)), (fun h => HFF.out.2.2.2.2.2.2.2.2.2.2.2.2.2.1 (by rw [getD_set_ne _ (by decide)] at h; exact h)), (fun _ => rfl), (fun h => HFF.out.2.2.2.2.2.2.2.2.2.2.2.2.2.2.2.1 (by rw [getD_set_ne _ (by decide)] at h; exact h)), (fun h => HFF.out.2.2.2.2.2.2.2.2.2.2.2.2.2.2.2.2.1 (by rw [getD_set_ne _ (by decide)] at h; exact h)), (fun h => HFF.out.2.2.2.2.2.2.2.2.2.2.2.2.2.2.2.2.2.1 (by rw [getD_set_ne _ (by decide)] at h; exact h)), (fun h => HFF.out.2.2.2.2.2.2.2.2.2.2.2.2.2.2.2.2.2.2.1 (by rw [getD_set_ne _ (by decide)] at h; exact h)), (fun h => HFF.out.2.2.2.2.2.2.2.2.2.2.2.2.2.2.2.2.2.2.2.1 (by rw [getD_set_ne _ (by decide)] at h; exact h)), (fun h => HFF.out.2.2.2.2.2.2.2.2.2.2.2.2.2.2.2.2.2.2.2.2.1 (by rw [getD_set_ne _ (by decide)] at h; exact h)), (fun h => HFF.out.2.2.2.2.2.2.2.2.2.2.2.2.2.2.2.2.2.2.2.2.2.1 (by rw [getD_set_ne _ (by decide)] at h; exact h)), (fun h => HFF.out.2.2.2.2.2.2.2.2.2.2.2.2.2.2.2.2.2.2.2.2.2.2.1 (by rw [getD_set_ne _ (by decide)] at h; exact h)), (fun h => HFF.out.2.2.2.2.2.2.2.2.2.2.2.2.2.2.2.2.2.2.2.2.2.2.2 (by rw [getD_set_ne _ (by decide)] at h; exact h)), ?_⟩
            rw [getD_set_ne (i := 14) (j := 22) _ (by decide)]
            rw [getD_set_ne (i := 14) (j := 24) _ (by decide)]
            rw [getD_set_ne (i := 14) (j := 26) _ (by decide)]
            exact HW.out
          · cases ho
            have e14 := f14 (HAF.out ⟨14, .data⟩ (by simp) rfl)
            have HUN := Lib.hid hun
            have n26 : li.getD 26 false = false := by
              cases hx : li.getD 26 false
              · rfl
              · rw [get_def (HC.out 26 _ rfl hx ⟨15, .phase⟩ (by simp) rfl)] at hun; cases hun
            have cc := (HW.out.1.cell 4)
            simp only [hcs, n26, List.getElem?_toArray, List.getElem?_cons_zero, List.getElem?_cons_succ, Bool.false_eq_true, if_false] at cc
            have HFF := Lib.hid (And.intro f0 ( And.intro f1 ( And.intro f2 ( And.intro f3 ( And.intro f4 ( And.intro f5 ( And.intro f6 ( And.intro f7 ( And.intro f8 ( And.intro f9 ( And.intro f10 ( And.intro f11 ( And.intro f12 ( And.intro f13 ( And.intro f14 ( And.intro f15 ( And.intro f16 ( And.intro f17 ( And.intro f18 ( And.intro f19 ( And.intro f20 ( And.intro f21 ( And.intro f23 (f25))))))))))))))))))))))))
            clear f0 f1 f2 f3 f4 f5 f6 f7 f8 f9 f10 f11 f12 f13 f14 f15 f16 f17 f18 f19 f20 f21 f23 f25 hun
            refine Ri9.wpOp_list rfl ?_
            go_wp2
            refine (HJ3.out _ _ _).2 ⟨fun qq => if qq = 15 then .int .i64 s else v qq, by simp [e14], (fun h => HFF.out.1 (by rw [getD_set_ne _ (by decide)] at h; exact h)), (fun h => HFF.out.2.1 (by rw [getD_set_ne _ (by decide)] at h; exact h)), (fun h => HFF.out.2.2.1 (by rw [getD_set_ne _ (by decide)] at h; exact h)), (fun h => HFF.out.2.2.2.1 (by rw [getD_set_ne _ (by decide)] at h; exact h)), (fun h => HFF.out.2.2.2.2.1 (by rw [getD_set_ne _ (by decide)] at h; exact h)), (fun h => HFF.out.2.2.2.2.2.1 (by rw [getD_set_ne _ (by decide)] at h; exact h)), (fun h => HFF.out.2.2.2.2.2.2.1 (by rw [getD_set_ne _ (by decide)] at h; exact h)), (fun h => HFF.out.2.2.2.2.2.2.2.1 (by rw [getD_set_ne _ (by decide)] at h; exact h)), (fun h => HFF.out.2.2.2.2.2.2.2.2.1 (by rw [getD_set_ne _ (by decide)] at h; exact h)), (fun h => HFF.out.2.2.2.2.2.2.2.2.2.1 (by rw [getD_set_ne _ (by decide)] at h; exact h)), (fun h => HFF.out.2.2.2.2.2.2.2.2.2.2.1 (by rw [getD_set_ne _ (by decide)] at h; exact h)), (fun h => HFF.out.2.2.2.2.2.2.2.2.2.2.2.1 (by rw [getD_set_ne _ (by decide)] at h; exact h)), (fun h => HFF.out.2.2.2.2.2.2.2.2.2.2.2.2.1 (by rw [getD_set_ne _ (by decide)] at h; exact h)), (fun h => HFF.out.2.2.2.2.2.2.2.2.2.2.2.2.2.1 (by rw [getD_set_ne _ (by decide)] at h; exact h)), (fun h => HFF.out.2.2.2.2.2.2.2.2.2.2.2.2.2.2.1 (by rw [getD_set_ne _ (by decide)] at h; exact h)), (fun _ => rfl), (fun h => HFF.out.2.2.2.2.2.2.2.2.2.2.2.2.2.2.2.2.1 (by rw [getD_set_ne _ (by decide)] at h; exact h)), (fun h => HFF.out.2.2.2.2.2.2.2.2.2.2.2.2.2.2.2.2.2.1 (by rw [getD_set_ne _ (by decide)] at h; exact h)), (fun h => HFF.out.2.2.2.2.2.2.2.2.2.2.2.2.2.2.2.2.2.2.1 (by rw [getD_set_ne _ (by decide)] at h; exact h)), (fun h => HFF.out.2.2.2.2.2.2.2.2.2.2.2.2.2.2.2.2.2.2.2.1 (by rw [getD_set_ne _ (by decide)] at h; exact h)), (fun h => HFF.out.2.2.2.2.2.2.2.2.2.2.2.2.2.2.2.2.2.2.2.2.1 (by rw [getD_set_ne _ (by decide)] at h; exact h)), (fun h => HFF.out.2.2.2.2.2.2.2.2.2.2.2.2.2.2.2.2.2.2.2.2.2.1 (by rw [getD_set_ne _ (by decide)] at h; exact h)), (fun h => HFF.out.2.2.2.2.2.2.2.2.2.2.2.2.2.2.2.2.2.2.2.2.2.2.1 (by rw [getD_set_ne _ (by decide)] at h; exact h)), (fun h => HFF.out.2.2.2.2.2.2.2.2.2.2.2.2.2.2.2.2.2.2.2.2.2.2.2 (by rw [getD_set_ne _ (by decide)] at h; exact h)), ?_⟩
            rw [getD_set_ne (i := 15) (j := 22) _ (by decide)]
            rw [getD_set_ne (i := 15) (j := 24) _ (by decide)]
            rw [getD_set_ne (i := 15) (j := 26) _ (by decide)]
            exact HW.out
          · cases ho
            have HUN := Lib.hid hun
            have HFF := Lib.hid (And.intro f0 ( And.intro f1 ( And.intro f2 ( And.intro f3 ( And.intro f4 ( And.intro f5 ( And.intro f6 ( And.intro f7 ( And.intro f8 ( And.intro f9 ( And.intro f10 ( And.intro f11 ( And.intro f12 ( And.intro f13 ( And.intro f14 ( And.intro f15 ( And.intro f16 ( And.intro f17 ( And.intro f18 ( And.intro f19 ( And.intro f20 ( And.intro f21 ( And.intro f23 (f25))))))))))))))))))))))))
            clear f0 f1 f2 f3 f4 f5 f6 f7 f8 f9 f10 f11 f12 f13 f14 f15 f16 f17 f18 f19 f20 f21 f23 f25 hun
            refine Ri9.wpOp_list rfl ?_
            go_wp2
            refine (HJ3.out _ _ _).2 ⟨fun qq => if qq = 16 then .slice (some ad) n c else v qq, by simp [], (fun h => HFF.out.1 (by rw [getD_set_ne _ (by decide)] at h; exact h)), (fun h => HFF.out.2.1 (by rw [getD_set_ne _ (by decide)] at h; exact h)), (fun h => HFF.out.2.2.1 (by rw [getD_set_ne _ (by decide)] at h; exact h)), (fun h => HFF.out.2.2.2.1 (by rw [getD_set_ne _ (by decide)] at h; exact h)), (fun h => HFF.out.2.2.2.2.1 (by rw [getD_set_ne _ (by decide)] at h; exact h)), (fun h => HFF.out.2.2.2.2.2.1 (by rw [getD_set_ne _ (by decide)] at h; exact h)), (fun h => HFF.out.2.2.2.2.2.2.1 (by rw [getD_set_ne _ (by decide)] at h; exact h)), (fun h => HFF.out.2.2.2.2.2.2.2.1 (by rw [getD_set_ne _ (by decide)] at h; exact h)), (fun h => HFF.out.2.2.2.2.2.2.2.2.1 (by rw [getD_set_ne _ (by decide)] at h; exact h)), (fun h => HFF.out.2.2.2.2.2.2.2.2.2.1 (by rw [getD_set_ne _ (by decide)] at h; exact h)), (fun h => HFF.out.2.2.2.2.2.2.2.2.2.2.1 (by rw [getD_set_ne _ (by decide)] at h; exact h)), (fun h => HFF.out.2.2.2.2.2.2.2.2.2.2.2.1 (by rw [getD_set_ne _ (by decide)] at h; exact h)), (fun h => HFF.out.2.2.2.2.2.2.2.2.2.2.2.2.1 (by rw [getD_set_ne _ (by decide)] at h; exact h)), (fun h => HFF.out.2.2.2.2.2.2.2.2.2.2.2.2.2.1 (by rw [getD_set_ne _ (by decide)] at h; exact h)), (fun h => HFF.out.2.2.2.2.2.2.2.2.2.2.2.2.2.2.1 (by rw [getD_set_ne _ (by decide)] at h; exact h)), (fun h => HFF.out.2.2.2.2.2.2.2.2.2.2.2.2.2.2.2.1 (by rw [getD_set_ne _ (by decide)] at h; exact h)), (fun _ => rfl), (fun h => HFF.out.2.2.2.2.2.2.2.2.2.2.2.2.2.2.2.2.2.1 (by rw [getD_set_ne _ (by decide)] at h; exact h)), (fun h => HFF.out.2.2.2.2.2.2.2.2.2.2.2.2.2.2.2.2.2.2.1 (by rw [getD_set_ne _ (by decide)] at h; exact h)), (fun h => HFF.out.2.2.2.2.2.2.2.2.2.2.2.2.2.2.2.2.2.2.2.1 (by rw [getD_set_ne _ (by decide)] at h; exact h)), (fun h => HFF.out.2.2.2.2.2.2.2.2.2.2.2.2.2.2.2.2.2.2.2.2.1 (by rw [getD_set_ne _ (by decide)] at h; exact h)), (fun h => HFF.out.2.2.2.2.2.2.2.2.2.2.2.2.2.2.2.2.2.2.2.2.2.1 (by rw [getD_set_ne _ (by decide)] at h; exact h)), (fun h => HFF.out.2.2.2.2.2.2.2.2.2.2.2.2.2.2.2.2.2.2.2.2.2.2.1 (by rw [getD_set_ne _ (by decide)] at h; exact h)), (fun h => HFF.out.2.2.2.2.2.2.2.2.2.2.2.2.2.2.2.2.2.2.2.2.2.2.2 (by rw [getD_set_ne _ (by decide)] at h; exact h)), ?_⟩
            rw [getD_set_ne (i := 16) (j := 22) _ (by decide)]
            rw [getD_set_ne (i := 16) (j := 24) _ (by decide)]
            rw [getD_set_ne (i := 16) (j := 26) _ (by decide)]
            exact HW.out
          · cases ho
            have HUN := Lib.hid hun
            have HFF := Lib.hid (And.intro f0 ( And.intro f1 ( And.intro f2 ( And.intro f3 ( And.intro f4 ( And.intro f5 ( And.intro f6 ( And.intro f7 ( And.intro f8 ( And.intro f9 ( And.intro f10 ( And.intro f11 ( And.intro f12 ( And.intro f13 ( And.intro f14 ( And.intro f15 ( And.intro f16 ( And.intro f17 ( And.intro f18 ( And.intro f19 ( And.intro f20 ( And.intro f21 ( And.intro f23 (f25))))))))))))))))))))))))
            clear f0 f1 f2 f3 f4 f5 f6 f7 f8 f9 f10 f11 f12 f13 f14 f15 f16 f17 f18 f19 f20 f21 f23 f25 hun
            refine Ri9.wpOp_list rfl ?_
            go_wp2
            refine (HJ3.out _ _ _).2 ⟨fun qq => if qq = 17 then .int .i64 (k : Int) else v qq, by simp [], (fun h => HFF.out.1 (by rw [getD_set_ne _ (by decide)] at h; exact h)), (fun h => HFF.out.2.1 (by rw [getD_set_ne _ (by decide)] at h; exact h)), (fun h => HFF.out.2.2.1 (by rw [getD_set_ne _ (by decide)] at h; exact h)), (fun h => HFF.out.2.2.2.1 (by rw [getD_set_ne _ (by decide)] at h; exact h)), (fun h => HFF.out.2.2.2.2.1 (by rw [getD_set_ne _ (by decide)] at h; exact h)), (fun h => HFF.out.2.2.2.2.2.1 (by rw [getD_set_ne _ (by decide)] at h; exact h)), (fun h => HFF.out.2.2.2.2.2.2.1 (by rw [getD_set_ne _ (by decide)] at h; exact h)), (fun h => HFF.out.2.2.2.2.2.2.2.1 (by rw [getD_set_ne _ (by decide)] at h; exact h)), (fun h => HFF.out.2.2.2.2.2.2.2.2.1 (by rw [getD_set_ne _ (by decide)] at h; exact h)), (fun h => HFF.out.2.2.2.2.2.2.2.2.2.1 (by rw [getD_set_ne _ (by decide)] at h; exact h)), (fun h => HFF.out.2.2.2.2.2.2.2.2.2.2.1 (by rw [getD_set_ne _ (by decide)] at h; exact h)), (fun h => HFF.out.2.2.2.2.2.2.2.2.2.2.2.1 (by rw [getD_set_ne _ (by decide)] at h; exact h)), (fun h => HFF.out.2.2.2.2.2.2.2.2.2.2.2.2.1 (by rw [getD_set_ne _ (by decide)] at h; exact h)), (fun h => HFF.out.2.2.2.2.2.2.2.2.2.2.2.2.2.1 (by rw [getD_set_ne _ (by decide)] at h; exact h)), (fun h => HFF.out.2.2.2.2.2.2.2.2.2.2.2.2.2.2.1 (by rw [getD_set_ne _ (by decide)] at h; exact h)), (fun h => HFF.out.2.2.2.2.2.2.2.2.2.2.2.2.2.2.2.1 (by rw [getD_set_ne _ (by decide)] at h; exact h)), (fun h => HFF.out.2.2.2.2.2.2.2.2.2.2.2.2.2.2.2.2.1 (by rw [getD_set_ne _ (by decide)] at h; exact h)), (fun _ => rfl), (fun h => HFF.out.2.2.2.2.2.2.2.2.2.2.2.2.2.2.2.2.2.2.1 (by rw [getD_set_ne _ (by decide)] at h; exact h)), (fun h => HFF.out.2.2.2.2.2.2.2.2.2.2.2.2.2.2.2.2.2.2.2.1 (by rw [getD_set_ne _ (by decide)] at h; exact h)), (fun h => HFF.out.2.2.2.2.2.2.2.2.2.2.2.2.2.2.2.2.2.2.2.2.1 (by rw [getD_set_ne _ (by decide)] at h; exact h)), (fun h => HFF.out.2.2.2.2.2.2.2.2.2.2.2.2.2.2.2.2.2.2.2.2.2.1 (by rw [getD_set_ne _ (by decide)] at h; exact h)), (fun h => HFF.out.2.2.2.2.2.2.2.2.2.2.2.2.2.2.2.2.2.2.2.2.2.2.1 (by rw [getD_set_ne _ (by decide)] at h; exact h)), (fun h => HFF.out.2.2.2.2.2.2.2.2.2.2.2.2.2.2.2.2.2.2.2.2.2.2.2 (by rw [getD_set_ne _ (by decide)] at h; exact h)), ?_⟩
            rw [getD_set_ne (i := 17) (j := 22) _ (by decide)]
            rw [getD_set_ne (i := 17) (j := 24) _ (by decide)]
            rw [getD_set_ne (i := 17) (j := 26) _ (by decide)]
            exact HW.out
          · cases ho
            have e16 := f16 (HAF.out ⟨16, .data⟩ (by simp) rfl)
            have e17 := f17 (HAF.out ⟨17, .data⟩ (by simp) rfl)
            have HUN := Lib.hid hun
            have HFF := Lib.hid (And.intro f0 ( And.intro f1 ( And.intro f2 ( And.intro f3 ( And.intro f4 ( And.intro f5 ( And.intro f6 ( And.intro f7 ( And.intro f8 ( And.intro f9 ( And.intro f10 ( And.intro f11 ( And.intro f12 ( And.intro f13 ( And.intro f14 ( And.intro f15 ( And.intro f16 ( And.intro f17 ( And.intro f18 ( And.intro f19 ( And.intro f20 ( And.intro f21 ( And.intro f23 (f25))))))))))))))))))))))))
            clear f0 f1 f2 f3 f4 f5 f6 f7 f8 f9 f10 f11 f12 f13 f14 f15 f16 f17 f18 f19 f20 f21 f23 f25 hun
            refine Ri9.wpOp_list rfl ?_
            go_wp2
            refine (HJ3.out _ _ _).2 ⟨fun qq => if qq = 18 then .pointer (some (ad.add k)) else v qq, by simp [e16, e17], (fun h => HFF.out.1 (by rw [getD_set_ne _ (by decide)] at h; exact h)), (fun h => HFF.out.2.1 (by rw [getD_set_ne _ (by decide)] at h; exact h)), (fun h => HFF.out.2.2.1 (by rw [getD_set_ne _ (by decide)] at h; exact h)), (fun h => HFF.out.2.2.2.1 (by rw [getD_set_ne _ (by decide)] at h; exact h)), (fun h => HFF.out.2.2.2.2.1 (by rw [getD_set_ne _ (by decide)] at h; exact h)), (fun h => HFF.out.2.2.2.2.2.1 (by rw [getD_set_ne _ (by decide)] at h; exact h)), (fun h => HFF.out.2.2.2.2.2.2.1 (by rw [getD_set_ne _ (by decide)] at h; exact h)), (fun h => HFF.out.2.2.2.2.2.2.2.1 (by rw [getD_set_ne _ (by decide)] at h; exact h)), (fun h => HFF.out.2.2.2.2.2.2.2.2.1 (by rw [getD_set_ne _ (by decide)] at h; exact h)), (fun h => HFF.out.2.2.2.2.2.2.2.2.2.1 (by rw [getD_set_ne _ (by decide)] at h; exact h)), (fun h => HFF.out.2.2.2.2.2.2.2.2.2.2.1 (by rw [getD_set_ne _ (by decide)] at h; exact h)), (fun h => HFF.out.2.2.2.2.2.2.2.2.2.2.2.1 (by rw [getD_set_ne _ (by decide)] at h; exact h)), (fun h => HFF.out.2.2.2.2.2.2.2.2.2.2.2.2.1 (by rw [getD_set_ne _ (by decide)] at h; exact h)), (fun h => HFF.out.2.2.2.2.2.2.2.2.2.2.2.2.2.1 (by rw [getD_set_ne _ (by decide)] at h; exact h)), (fun h => HFF.out.2.2.2.2.2.2.2.2.2.2.2.2.2.2.1 (by rw [getD_set_ne _ (by decide)] at h; exact h)), (fun h => HFF.out.2.2.2.2.2.2.2.2.2.2.2.2.2.2.2.1 (by rw [getD_set_ne _ (by decide)] at h; exact h)), (fun h => HFF.out.2.2.2.2.2.2.2.2.2.2.2.2.2.2.2.2.1 (by rw [getD_set_ne _ (by decide)] at h; exact h)), (fun h => HFF.out.2.2.2.2.2.2.2.2.2.2.2.2.2.2.2.2.2.1 (by rw [getD_set_ne _ (by decide)] at h; exact h)), (fun _ => rfl), (fun h => HFF.out.2.2.2.2.2.2.2.2.2.2.2.2.2.2.2.2.2.2.2.1 (by rw [getD_set_ne _ (by decide)] at h; exact h)), (fun h => HFF.out.2.2.2.2.2.2.2.2.2.2.2.2.2.2.2.2.2.2.2.2.1 (by rw [getD_set_ne _ (by decide)] at h; exact h)), (fun h => HFF.out.2.2.2.2.2.2.2.2.2.2.2.2.2.2.2.2.2.2.2.2.2.1 (by rw [getD_set_ne _ (by decide)] at h; exact h)), (fun h => HFF.out.2.2.2.2.2.2.2.2.2.2.2.2.2.2.2.2.2.2.2.2.2.2.1 (by rw [getD_set_ne _ (by decide)] at h; exact h)), (fun h => HFF.out.2.2.2.2.2.2.2.2.2.2.2.2.2.2.2.2.2.2.2.2.2.2.2 (by rw [getD_set_ne _ (by decide)] at h; exact h)), ?_⟩
            rw [getD_set_ne (i := 18) (j := 22) _ (by decide)]
            rw [getD_set_ne (i := 18) (j := 24) _ (by decide)]
            rw [getD_set_ne (i := 18) (j := 26) _ (by decide)]
            exact HW.out
          · cases ho
            have e18 := f18 (HAF.out ⟨18, .data⟩ (by simp) rfl)
            have HUN := Lib.hid hun
            have cc := HW.out.2.2.kp cz
            have HFF := Lib.hid (And.intro f0 ( And.intro f1 ( And.intro f2 ( And.intro f3 ( And.intro f4 ( And.intro f5 ( And.intro f6 ( And.intro f7 ( And.intro f8 ( And.intro f9 ( And.intro f10 ( And.intro f11 ( And.intro f12 ( And.intro f13 ( And.intro f14 ( And.intro f15 ( And.intro f16 ( And.intro f17 ( And.intro f18 ( And.intro f19 ( And.intro f20 ( And.intro f21 ( And.intro f23 (f25))))))))))))))))))))))))
            clear f0 f1 f2 f3 f4 f5 f6 f7 f8 f9 f10 f11 f12 f13 f14 f15 f16 f17 f18 f19 f20 f21 f23 f25 hun
            refine Ri9.wpOp_list rfl ?_
            go_wp2
            refine (HJ3.out _ _ _).2 ⟨fun qq => if qq = 19 then .int .i64 z else v qq, by simp [e18], (fun h => HFF.out.1 (by rw [getD_set_ne _ (by decide)] at h; exact h)), (fun h => HFF.out.2.1 (by rw [getD_set_ne _ (by decide)] at h; exact h)), (fun h => HFF.out.2.2.1 (by rw [getD_set_ne _ (by decide)] at h; exact h)), (fun h => HFF.out.2.2.2.1 (by rw [getD_set_ne _ (by decide)] at h; exact h)), (fun h => HFF.out.2.2.2.2.1 (by rw [getD_set_ne _ (by decide)] at h; exact h)), (fun h => HFF.out.2.2.2.2.2.1 (by rw [getD_set_ne _ (by decide)] at h; exact h)), (fun h => HFF.out.2.2.2.2.2.2.1 (by rw [getD_set_ne _ (by decide)] at h; exact h)), (fun h => HFF.out.2.2.2.2.2.2.2.1 (by rw [getD_set_ne _ (by decide)] at h; exact h)), (fun h => HFF.out.2.2.2.2.2.2.2.2.1 (by rw [getD_set_ne _ (by decide)] at h; exact h)), (fun h => HFF.out.2.2.2.2.2.2.2.2.2.1 (by rw [getD_set_ne _ (by decide)] at h; exact h)), (fun h => HFF.out.2.2.2.2.2.2.2.2.2.2.1 (by rw [getD_set_ne _ (by decide)] at h; exact h)), (fun h => HFF.out.2.2.2.2.2.2.2.2.2.2.2.1 (by rw [getD_set_ne _ (by decide)] at h; exact h)), (fun h => HFF.out.2.2.2.2.2.2.2.2.2.2.2.2.1 (by rw [getD_set_ne _ (by decide)] at h; exact h)), (fun h => HFF.out.2.2.2.2.2.2.2.2.2.2.2.2.2.1 (by rw [getD_set_ne _ (by decide)] at h; exact h)), (fun h => HFF.out.2.2.2.2.2.2.2.2.2.2.2.2.2.2.1 (by rw [getD_set_ne _ (by decide)] at h; exact h)), (fun h => HFF.out.2.2.2.2.2.2.2.2.2.2.2.2.2.2.2.1 (by rw [getD_set_ne _ (by decide)] at h; exact h)), (fun h => HFF.out.2.2.2.2.2.2.2.2.2.2.2.2.2.2.2.2.1 (by rw [getD_set_ne _ (by decide)] at h; exact h)), (fun h => HFF.out.2.2.2.2.2.2.2.2.2.2.2.2.2.2.2.2.2.1 (by rw [getD_set_ne _ (by decide)] at h; exact h)), (fun h => HFF.out.2.2.2.2.2.2.2.2.2.2.2.2.2.2.2.2.2.2.1 (by rw [getD_set_ne _ (by decide)] at h; exact h)), (fun _ => rfl), (fun h => HFF.out.2.2.2.2.2.2.2.2.2.2.2.2.2.2.2.2.2.2.2.2.1 (by rw [getD_set_ne _ (by decide)] at h; exact h)), (fun h => HFF.out.2.2.2.2.2.2.2.2.2.2.2.2.2.2.2.2.2.2.2.2.2.1 (by rw [getD_set_ne _ (by decide)] at h; exact h)), (fun h => HFF.out.2.2.2.2.2.2.2.2.2.2.2.2.2.2.2.2.2.2.2.2.2.2.1 (by rw [getD_set_ne _ (by decide)] at h; exact h)), (fun h => HFF.out.2.2.2.2.2.2.2.2.2.2.2.2.2.2.2.2.2.2.2.2.2.2.2 (by rw [getD_set_ne _ (by decide)] at h; exact h)), ?_⟩
            rw [getD_set_ne (i := 19) (j := 22) _ (by decide)]
            rw [getD_set_ne (i := 19) (j := 24) _ (by decide)]
            rw [getD_set_ne (i := 19) (j := 26) _ (by decide)]
            exact HW.out
          · cases ho
            have e15 := f15 (HAF.out ⟨15, .data⟩ (by simp) rfl)
            have e19 := f19 (HAF.out ⟨19, .data⟩ (by simp) rfl)
            have HUN := Lib.hid hun
            have HFF := Lib.hid (And.intro f0 ( And.intro f1 ( And.intro f2 ( And.intro f3 ( And.intro f4 ( And.intro f5 ( And.intro f6 ( And.intro f7 ( And.intro f8 ( And.intro f9 ( And.intro f10 ( And.intro f11 ( And.intro f12 ( And.intro f13 ( And.intro f14 ( And.intro f15 ( And.intro f16 ( And.intro f17 ( And.intro f18 ( And.intro f19 ( And.intro f20 ( And.intro f21 ( And.intro f23 (f25))))))))))))))))))))))))
            clear f0 f1 f2 f3 f4 f5 f6 f7 f8 f9 f10 f11 f12 f13 f14 f15 f16 f17 f18 f19 f20 f21 f23 f25 hun
            refine Ri9.wpOp_list rfl ?_
            go_wp2
            refine (HJ3.out _ _ _).2 ⟨fun qq => if qq = 20 then .int .i64 s' else v qq, by simp [e15, e19], (fun h => HFF.out.1 (by rw [getD_set_ne _ (by decide)] at h; exact h)), (fun h => HFF.out.2.1 (by rw [getD_set_ne _ (by decide)] at h; exact h)), (fun h => HFF.out.2.2.1 (by rw [getD_set_ne _ (by decide)] at h; exact h)), (fun h => HFF.out.2.2.2.1 (by rw [getD_set_ne _ (by decide)] at h; exact h)), (fun h => HFF.out.2.2.2.2.1 (by rw [getD_set_ne _ (by decide)] at h; exact h)), (fun h => HFF.out.2.2.2.2.2.1 (by rw [getD_set_ne _ (by decide)] at h; exact h)), (fun h => HFF.out.2.2.2.2.2.2.1 (by rw [getD_set_ne _ (by decide)] at h; exact h)), (fun h => HFF.out.2.2.2.2.2.2.2.1 (by rw [getD_set_ne _ (by decide)] at h; exact h)), (fun h => HFF.out.2.2.2.2.2.2.2.2.1 (by rw [getD_set_ne _ (by decide)] at h; exact h)), (fun h => HFF.out.2.2.2.2.2.2.2.2.2.1 (by rw [getD_set_ne _ (by decide)] at h; exact h)), (fun h => HFF.out.2.2.2.2.2.2.2.2.2.2.1 (by rw [getD_set_ne _ (by decide)] at h; exact h)), (fun h => HFF.out.2.2.2.2.2.2.2.2.2.2.2.1 (by rw [getD_set_ne _ (by decide)] at h; exact h)), (fun h => HFF.out.2.2.2.2.2.2.2.2.2.2.2.2.1 (by rw [getD_set_ne _ (by decide)] at h; exact h)), (fun h => HFF.out.2.2.2.2.2.2.2.2.2.2.2.2.2.1 (by rw [getD_set_ne _ (by decide)] at h; exact h)), (fun h => HFF.out.2.2.2.2.2.2.2.2.2.2.2.2.2.2.1 (by rw [getD_set_ne _ (by decide)] at h; exact h)), (fun h => HFF.out.2.2.2.2.2.2.2.2.2.2.2.2.2.2.2.1 (by rw [getD_set_ne _ (by decide)] at h; exact h)), (fun h => HFF.out.2.2.2.2.2.2.2.2.2.2.2.2.2.2.2.2.1 (by rw [getD_set_ne _ (by decide)] at h; exact h)), (fun h => HFF.out.2.2.2.2.2.2.2.2.2.2.2.2.2.2.2.2.2.1 (by rw [getD_set_ne _ (by decide)] at h; exact h)), (fun h => HFF.out.2.2.2.2.2.2.2.2.2.2.2.2.2.2.2.2.2.2.1 (by rw [getD_set_ne _ (by decide)] at h; exact h)), (fun h => HFF.out.2.2.2.2.2.2.2.2.2.2.2.2.2.2.2.2.2.2.2.1 (by rw [getD_set_ne _ (by decide)] at h; exact h)), (fun _ => rfl), (fun h => HFF.out.2.2.2.2.2.2.2.2.2.2.2.2.2.2.2.2.2.2.2.2.2.1 (by rw [getD_set_ne _ (by decide)] at h; exact h)), (fun h => HFF.out.2.2.2.2.2.2.2.2.2.2.2.2.2.2.2.2.2.2.2.2.2.2.1 (by rw [getD_set_ne _ (by decide)] at h; exact h)), (fun h => HFF.out.2.2.2.2.2.2.2.2.2.2.2.2.2.2.2.2.2.2.2.2.2.2.2 (by rw [getD_set_ne _ (by decide)] at h; exact h)), ?_⟩
            rw [getD_set_ne (i := 20) (j := 22) _ (by decide)]
            rw [getD_set_ne (i := 20) (j := 24) _ (by decide)]
            rw [getD_set_ne (i := 20) (j := 26) _ (by decide)]
            exact HW.out
          · cases ho
            have HUN := Lib.hid hun
            have HFF := Lib.hid (And.intro f0 ( And.intro f1 ( And.intro f2 ( And.intro f3 ( And.intro f4 ( And.intro f5 ( And.intro f6 ( And.intro f7 ( And.intro f8 ( And.intro f9 ( And.intro f10 ( And.intro f11 ( And.intro f12 ( And.intro f13 ( And.intro f14 ( And.intro f15 ( And.intro f16 ( And.intro f17 ( And.intro f18 ( And.intro f19 ( And.intro f20 ( And.intro f21 ( And.intro f23 (f25))))))))))))))))))))))))
            clear f0 f1 f2 f3 f4 f5 f6 f7 f8 f9 f10 f11 f12 f13 f14 f15 f16 f17 f18 f19 f20 f21 f23 f25 hun
            refine Ri9.wpOp_list rfl ?_
            go_wp2
            refine (HJ3.out _ _ _).2 ⟨fun qq => if qq = 21 then .pointer (some ⟨w.heap.size + 1, 2, none⟩) else v qq, by simp [], (fun h => HFF.out.1 (by rw [getD_set_ne _ (by decide)] at h; exact h)), (fun h => HFF.out.2.1 (by rw [getD_set_ne _ (by decide)] at h; exact h)), (fun h => HFF.out.2.2.1 (by rw [getD_set_ne _ (by decide)] at h; exact h)), (fun h => HFF.out.2.2.2.1 (by rw [getD_set_ne _ (by decide)] at h; exact h)), (fun h => HFF.out.2.2.2.2.1 (by rw [getD_set_ne _ (by decide)] at h; exact h)), (fun h => HFF.out.2.2.2.2.2.1 (by rw [getD_set_ne _ (by decide)] at h; exact h)), (fun h => HFF.out.2.2.2.2.2.2.1 (by rw [getD_set_ne _ (by decide)] at h; exact h)), (fun h => HFF.out.2.2.2.2.2.2.2.1 (by rw [getD_set_ne _ (by decide)] at h; exact h)), (fun h => HFF.out.2.2.2.2.2.2.2.2.1 (by rw [getD_set_ne _ (by decide)] at h; exact h)), (fun h => HFF.out.2.2.2.2.2.2.2.2.2.1 (by rw [getD_set_ne _ (by decide)] at h; exact h)), (fun h => HFF.out.2.2.2.2.2.2.2.2.2.2.1 (by rw [getD_set_ne _ (by decide)] at h; exact h)), (fun h => HFF.out.2.2.2.2.2.2.2.2.2.2.2.1 (by rw [getD_set_ne _ (by decide)] at h; exact h)), (fun h => HFF.out.2.2.2.2.2.2.2.2.2.2.2.2.1 (by rw [getD_set_ne _ (by decide)] at h; exact h)), (fun h => HFF.out.2.2.2.2.2.2.2.2.2.2.2.2.2.1 (by rw [getD_set_ne _ (by decide)] at h; exact h)), (fun h => HFF.out.2.2.2.2.2.2.2.2.2.2.2.2.2.2.1 (by rw [getD_set_ne _ (by decide)] at h; exact h)), (fun h => HFF.out.2.2.2.2.2.2.2.2.2.2.2.2.2.2.2.1 (by rw [getD_set_ne _ (by decide)] at h; exact h)), (fun h => HFF.out.2.2.2.2.2.2.2.2.2.2.2.2.2.2.2.2.1 (by rw [getD_set_ne _ (by decide)] at h; exact h)), (fun h => HFF.out.2.2.2.2.2.2.2.2.2.2.2.2.2.2.2.2.2.1 (by rw [getD_set_ne _ (by decide)] at h; exact h)), (fun h => HFF.out.2.2.2.2.2.2.2.2.2.2.2.2.2.2.2.2.2.2.1 (by rw [getD_set_ne _ (by decide)] at h; exact h)), (fun h => HFF.out.2.2.2.2.2.2.2.2.2.2.2.2.2.2.2.2.2.2.2.1 (by rw [getD_set_ne _ (by decide)] at h; exact h)), (fun h => HFF.out.2.2.2.2.2.2.2.2.2.2.2.2.2.2.2.2.2.2.2.2.1 (by rw [getD_set_ne _ (by decide)] at h; exact h)), (fun _ => rfl), (fun h => HFF.out.2.2.2.2.2.2.2.2.2.2.2.2.2.2.2.2.2.2.2.2.2.2.1 (by rw [getD_set_ne _ (by decide)] at h; exact h)), (fun h => HFF.out.2.2.2.2.2.2.2.2.2.2.2.2.2.2.2.2.2.2.2.2.2.2.2 (by rw [getD_set_ne _ (by decide)] at h; exact h)), ?_⟩
            rw [getD_set_ne (i := 21) (j := 22) _ (by decide)]
            rw [getD_set_ne (i := 21) (j := 24) _ (by decide)]
            rw [getD_set_ne (i := 21) (j := 26) _ (by decide)]
            exact HW.out
          · cases ho
            have e21 := f21 (HAF.out ⟨21, .data⟩ (by simp) rfl)
            have e6 := f6 (HAF.out ⟨6, .data⟩ (by simp) rfl)
            have HUN := Lib.hid hun
            have cc := (HW.out.1.cell 2)
            simp only [hcs, List.getElem?_toArray, List.getElem?_cons_zero, List.getElem?_cons_succ] at cc
            have yy := HW.out.1.fr 2
            have HFF := Lib.hid (And.intro f0 ( And.intro f1 ( And.intro f2 ( And.intro f3 ( And.intro f4 ( And.intro f5 ( And.intro f6 ( And.intro f7 ( And.intro f8 ( And.intro f9 ( And.intro f10 ( And.intro f11 ( And.intro f12 ( And.intro f13 ( And.intro f14 ( And.intro f15 ( And.intro f16 ( And.intro f17 ( And.intro f18 ( And.intro f19 ( And.intro f20 ( And.intro f21 ( And.intro f23 (f25))))))))))))))))))))))))
            clear f0 f1 f2 f3 f4 f5 f6 f7 f8 f9 f10 f11 f12 f13 f14 f15 f16 f17 f18 f19 f20 f21 f23 f25 hun
            refine Ri9.wpOp_list rfl ?_
            go_wp2
            refine (HJ3.out _ _ _).2 ⟨v, by simp [e21, e6], (fun h => HFF.out.1 (by rw [getD_set_ne _ (by decide)] at h; exact h)), (fun h => HFF.out.2.1 (by rw [getD_set_ne _ (by decide)] at h; exact h)), (fun h => HFF.out.2.2.1 (by rw [getD_set_ne _ (by decide)] at h; exact h)), (fun h => HFF.out.2.2.2.1 (by rw [getD_set_ne _ (by decide)] at h; exact h)), (fun h => HFF.out.2.2.2.2.1 (by rw [getD_set_ne _ (by decide)] at h; exact h)), (fun h => HFF.out.2.2.2.2.2.1 (by rw [getD_set_ne _ (by decide)] at h; exact h)), (fun h => HFF.out.2.2.2.2.2.2.1 (by rw [getD_set_ne _ (by decide)] at h; exact h)), (fun h => HFF.out.2.2.2.2.2.2.2.1 (by rw [getD_set_ne _ (by decide)] at h; exact h)), (fun h => HFF.out.2.2.2.2.2.2.2.2.1 (by rw [getD_set_ne _ (by decide)] at h; exact h)), (fun h => HFF.out.2.2.2.2.2.2.2.2.2.1 (by rw [getD_set_ne _ (by decide)] at h; exact h)), (fun h => HFF.out.2.2.2.2.2.2.2.2.2.2.1 (by rw [getD_set_ne _ (by decide)] at h; exact h)), (fun h => HFF.out.2.2.2.2.2.2.2.2.2.2.2.1 (by rw [getD_set_ne _ (by decide)] at h; exact h)), (fun h => HFF.out.2.2.2.2.2.2.2.2.2.2.2.2.1 (by rw [getD_set_ne _ (by decide)] at h; exact h)), (fun h => HFF.out.2.2.2.2.2.2.2.2.2.2.2.2.2.1 (by rw [getD_set_ne _ (by decide)] at h; exact h)), (fun h => HFF.out.2.2.2.2.2.2.2.2.2.2.2.2.2.2.1 (by rw [getD_set_ne _ (by decide)] at h; exact h)), (fun h => HFF.out.2.2.2.2.2.2.2.2.2.2.2.2.2.2.2.1 (by rw [getD_set_ne _ (by decide)] at h; exact h)), (fun h => HFF.out.2.2.2.2.2.2.2.2.2.2.2.2.2.2.2.2.1 (by rw [getD_set_ne _ (by decide)] at h; exact h)), (fun h => HFF.out.2.2.2.2.2.2.2.2.2.2.2.2.2.2.2.2.2.1 (by rw [getD_set_ne _ (by decide)] at h; exact h)), (fun h => HFF.out.2.2.2.2.2.2.2.2.2.2.2.2.2.2.2.2.2.2.1 (by rw [getD_set_ne _ (by decide)] at h; exact h)), (fun h => HFF.out.2.2.2.2.2.2.2.2.2.2.2.2.2.2.2.2.2.2.2.1 (by rw [getD_set_ne _ (by decide)] at h; exact h)), (fun h => HFF.out.2.2.2.2.2.2.2.2.2.2.2.2.2.2.2.2.2.2.2.2.1 (by rw [getD_set_ne _ (by decide)] at h; exact h)), (fun h => HFF.out.2.2.2.2.2.2.2.2.2.2.2.2.2.2.2.2.2.2.2.2.2.1 (by rw [getD_set_ne _ (by decide)] at h; exact h)), (fun h => HFF.out.2.2.2.2.2.2.2.2.2.2.2.2.2.2.2.2.2.2.2.2.2.2.1 (by rw [getD_set_ne _ (by decide)] at h; exact h)), (fun h => HFF.out.2.2.2.2.2.2.2.2.2.2.2.2.2.2.2.2.2.2.2.2.2.2.2 (by rw [getD_set_ne _ (by decide)] at h; exact h)), ?_⟩
            rw [get_set HUN.out]
            rw [getD_set_ne (i := 22) (j := 24) _ (by decide)]
            rw [getD_set_ne (i := 22) (j := 26) _ (by decide)]
            exact QW.st2 HW.out
          · cases ho
            have HUN := Lib.hid hun
            have HFF := Lib.hid (And.intro f0 ( And.intro f1 ( And.intro f2 ( And.intro f3 ( And.intro f4 ( And.intro f5 ( And.intro f6 ( And.intro f7 ( And.intro f8 ( And.intro f9 ( And.intro f10 ( And.intro f11 ( And.intro f12 ( And.intro f13 ( And.intro f14 ( And.intro f15 ( And.intro f16 ( And.intro f17 ( And.intro f18 ( And.intro f19 ( And.intro f20 ( And.intro f21 ( And.intro f23 (f25))))))))))))))))))))))))
            clear f0 f1 f2 f3 f4 f5 f6 f7 f8 f9 f10 f11 f12 f13 f14 f15 f16 f17 f18 f19 f20 f21 f23 f25 hun
            refine Ri9.wpOp_list rfl ?_
            go_wp2
            refine (HJ3.out _ _ _).2 ⟨fun qq => if qq = 23 then .pointer (some ⟨w.heap.size + 1, 3, none⟩) else v qq, by simp [], (fun h => HFF.out.1 (by rw [getD_set_ne _ (by decide)] at h; exact h)), (fun h => HFF.out.2.1 (by rw [getD_set_ne _ (by decide)] at h; exact h)), (fun h => HFF.out.2.2.1 (by rw [getD_set_ne _ (by decide)] at h; exact h)), (fun h => HFF.out.2.2.2.1 (by rw [getD_set_ne _ (by decide)] at h; exact h)), (fun h => HFF.out.2.2.2.2.1 (by rw [getD_set_ne _ (by decide)] at h; exact h)), (fun h => HFF.out.2.2.2.2.2.1 (by rw [getD_set_ne _ (by decide)] at h; exact h)), (fun h => HFF.out.2.2.2.2.2.2.1 (by rw [getD_set_ne _ (by decide)] at h; exact h)), (fun h => HFF.out.2.2.2.2.2.2.2.1 (by rw [getD_set_ne _ (by decide)] at h; exact h)), (fun h => HFF.out.2.2.2.2.2.2.2.2.1 (by rw [getD_set_ne _ (by decide)] at h; exact h)), (fun h => HFF.out.2.2.2.2.2.2.2.2.2.1 (by rw [getD_set_ne _ (by decide)] at h; exact h)), (fun h => HFF.out.2.2.2.2.2.2.2.2.2.2.1 (by rw [getD_set_ne _ (by decide)] at h; exact h)), (fun h => HFF.out.2.2.2.2.2.2.2.2.2.2.2.1 (by rw [getD_set_ne _ (by decide)] at h; exact h)), (fun h => HFF.out.2.2.2.2.2.2.2.2.2.2.2.2.1 (by rw [getD_set_ne _ (by decide)] at h; exact h)), (fun h => HFF.out.2.2.2.2.2.2.2.2.2.2.2.2.2.1 (by rw [getD_set_ne _ (by decide)] at h; exact h)), (fun h => HFF.out.2.2.2.2.2.2.2.2.2.2.2.2.2.2.1 (by rw [getD_set_ne _ (by decide)] at h; exact h)), (fun h => HFF.out.2.2.2.2.2.2.2.2.2.2.2.2.2.2.2.1 (by rw [getD_set_ne _ (by decide)] at h; exact h)), (fun h => HFF.out.2.2.2.2.2.2.2.2.2.2.2.2.2.2.2.2.1 (by rw [getD_set_ne _ (by decide)] at h; exact h)), (fun h => HFF.out.2.2.2.2.2.2.2.2.2.2.2.2.2.2.2.2.2.1 (by rw [getD_set_ne _ (by decide)] at h; exact h)), (fun h => HFF.out.2.2.2.2.2.2.2.2.2.2.2.2.2.2.2.2.2.2.1 (by rw [getD_set_ne _ (by decide)] at h; exact h)), (fun h => HFF.out.2.2.2.2.2.2.2.2.2.2.2.2.2.2.2.2.2.2.2.1 (by rw [getD_set_ne _ (by decide)] at h; exact h)), (fun h => HFF.out.2.2.2.2.2.2.2.2.2.2.2.2.2.2.2.2.2.2.2.2.1 (by rw [getD_set_ne _ (by decide)] at h; exact h)), (fun h => HFF.out.2.2.2.2.2.2.2.2.2.2.2.2.2.2.2.2.2.2.2.2.2.1 (by rw [getD_set_ne _ (by decide)] at h; exact h)), (fun _ => rfl), (fun h => HFF.out.2.2.2.2.2.2.2.2.2.2.2.2.2.2.2.2.2.2.2.2.2.2.2 (by rw [getD_set_ne _ (by decide)] at h; exact h)), ?_⟩
            rw [getD_set_ne (i := 23) (j := 22) _ (by decide)]
            rw [getD_set_ne (i := 23) (j := 24) _ (by decide)]
            rw [getD_set_ne (i := 23) (j := 26) _ (by decide)]
            exact HW.out
          · cases ho
            have e23 := f23 (HAF.out ⟨23, .data⟩ (by simp) rfl)
            have e13 := f13 (HAF.out ⟨13, .data⟩ (by simp) rfl)
            have HUN := Lib.hid hun
            have cc := (HW.out.1.cell 3)
            simp only [hcs, List.getElem?_toArray, List.getElem?_cons_zero, List.getElem?_cons_succ] at cc
            have yy := HW.out.1.fr 3
            have HFF := Lib.hid (And.intro f0 ( And.intro f1 ( And.intro f2 ( And.intro f3 ( And.intro f4 ( And.intro f5 ( And.intro f6 ( And.intro f7 ( And.intro f8 ( And.intro f9 ( And.intro f10 ( And.intro f11 ( And.intro f12 ( And.intro f13 ( And.intro f14 ( And.intro f15 ( And.intro f16 ( And.intro f17 ( And.intro f18 ( And.intro f19 ( And.intro f20 ( And.intro f21 ( And.intro f23 (f25))))))))))))))))))))))))
            clear f0 f1 f2 f3 f4 f5 f6 f7 f8 f9 f10 f11 f12 f13 f14 f15 f16 f17 f18 f19 f20 f21 f23 f25 hun
            refine Ri9.wpOp_list rfl ?_
            go_wp2
            refine (HJ3.out _ _ _).2 ⟨v, by simp [e23, e13], (fun h => HFF.out.1 (by rw [getD_set_ne _ (by decide)] at h; exact h)), (fun h => HFF.out.2.1 (by rw [getD_set_ne _ (by decide)] at h; exact h)), (fun h => HFF.out.2.2.1 (by rw [getD_set_ne _ (by decide)] at h; exact h)), (fun h => HFF.out.2.2.2.1 (by rw [getD_set_ne _ (by decide)] at h; exact h)), (fun h => HFF.out.2.2.2.2.1 (by rw [getD_set_ne _ (by decide)] at h; exact h)), (fun h => HFF.out.2.2.2.2.2.1 (by rw [getD_set_ne _ (by decide)] at h; exact h)), (fun h => HFF.out.2.2.2.2.2.2.1 (by rw [getD_set_ne _ (by decide)] at h; exact h)), (fun h => HFF.out.2.2.2.2.2.2.2.1 (by rw [getD_set_ne _ (by decide)] at h; exact h)), (fun h => HFF.out.2.2.2.2.2.2.2.2.1 (by rw [getD_set_ne _ (by decide)] at h; exact h)), (fun h => HFF.out.2.2.2.2.2.2.2.2.2.1 (by rw [getD_set_ne _ (by decide)] at h; exact h)), (fun h => HFF.out.2.2.2.2.2.2.2.2.2.2.1 (by rw [getD_set_ne _ (by decide)] at h; exact h)), (fun h => HFF.out.2.2.2.2.2.2.2.2.2.2.2.1 (by rw [getD_set_ne _ (by decide)] at h; exact h)), (fun h => HFF.out.2.2.2.2.2.2.2.2.2.2.2.2.1 (by rw [getD_set_ne _ (by decide)] at h; exact h)), (fun h => HFF.out.2.2.2.2.2.2.2.2.2.2.2.2.2.1 (by rw [getD_set_ne _ (by decide)] at h; exact h)), (fun h => HFF.out.2.2.2.2.2.2.2.2.2.2.2.2.2.2.1 (by rw [getD_set_ne _ (by decide)] at h; exact h)), (fun h => HFF.out.2.2.2.2.2.2.2.2.2.2.2.2.2.2.2.1 (by rw [getD_set_ne _ (by decide)] at h; exact h)), (fun h => HFF.out.2.2.2.2.2.2.2.2.2.2.2.2.2.2.2.2.1 (by rw [getD_set_ne _ (by decide)] at h; exact h)), (fun h => HFF.out.2.2.2.2.2.2.2.2.2.2.2.2.2.2.2.2.2.1 (by rw [getD_set_ne _ (by decide)] at h; exact h)), (fun h => HFF.out.2.2.2.2.2.2.2.2.2.2.2.2.2.2.2.2.2.2.1 (by rw [getD_set_ne _ (by decide)] at h; exact h)), (fun h => HFF.out.2.2.2.2.2.2.2.2.2.2.2.2.2.2.2.2.2.2.2.1 (by rw [getD_set_ne _ (by decide)] at h; exact h)), (fun h => HFF.out.2.2.2.2.2.2.2.2.2.2.2.2.2.2.2.2.2.2.2.2.1 (by rw [getD_set_ne _ (by decide)] at h; exact h)), (fun h => HFF.out.2.2.2.2.2.2.2.2.2.2.2.2.2.2.2.2.2.2.2.2.2.1 (by rw [getD_set_ne _ (by decide)] at h; exact h)), (fun h => HFF.out.2.2.2.2.2.2.2.2.2.2.2.2.2.2.2.2.2.2.2.2.2.2.1 (by rw [getD_set_ne _ (by decide)] at h; exact h)), (fun h => HFF.out.2.2.2.2.2.2.2.2.2.2.2.2.2.2.2.2.2.2.2.2.2.2.2 (by rw [getD_set_ne _ (by decide)] at h; exact h)), ?_⟩
            rw [getD_set_ne (i := 24) (j := 22) _ (by decide)]
            rw [get_set HUN.out]
            rw [getD_set_ne (i := 24) (j := 26) _ (by decide)]
            exact QW.st3 HW.out
          · cases ho
            have HUN := Lib.hid hun
            have HFF := Lib.hid (And.intro f0 ( And.intro f1 ( And.intro f2 ( And.intro f3 ( And.intro f4 ( And.intro f5 ( And.intro f6 ( And.intro f7 ( And.intro f8 ( And.intro f9 ( And.intro f10 ( And.intro f11 ( And.intro f12 ( And.intro f13 ( And.intro f14 ( And.intro f15 ( And.intro f16 ( And.intro f17 ( And.intro f18 ( And.intro f19 ( And.intro f20 ( And.intro f21 ( And.intro f23 (f25))))))))))))))))))))))))
            clear f0 f1 f2 f3 f4 f5 f6 f7 f8 f9 f10 f11 f12 f13 f14 f15 f16 f17 f18 f19 f20 f21 f23 f25 hun
            refine Ri9.wpOp_list rfl ?_
            go_wp2
            refine (HJ3.out _ _ _).2 ⟨fun qq => if qq = 25 then .pointer (some ⟨w.heap.size + 1, 4, none⟩) else v qq, by simp [], (fun h => HFF.out.1 (by rw [getD_set_ne _ (by decide)] at h; exact h)), (fun h => HFF.out.2.1 (by rw [getD_set_ne _ (by decide)] at h; exact h)), (fun h => HFF.out.2.2.1 (by rw [getD_set_ne _ (by decide)] at h; exact h)), (fun h => HFF.out.2.2.2.1 (by rw [getD_set_ne _ (by decide)] at h; exact h)), (fun h => HFF.out.2.2.2.2.1 (by rw [getD_set_ne _ (by decide)] at h; exact h)), (fun h => HFF.out.2.2.2.2.2.1 (by rw [getD_set_ne _ (by decide)] at h; exact h)), (fun h => HFF.out.2.2.2.2.2.2.1 (by rw [getD_set_ne _ (by decide)] at h; exact h)), (fun h => HFF.out.2.2.2.2.2.2.2.1 (by rw [getD_set_ne _ (by decide)] at h; exact h)), (fun h => HFF.out.2.2.2.2.2.2.2.2.1 (by rw [getD_set_ne _ (by decide)] at h; exact h)), (fun h => HFF.out.2.2.2.2.2.2.2.2.2.1 (by rw [getD_set_ne _ (by decide)] at h; exact h)), (fun h => HFF.out.2.2.2.2.2.2.2.2.2.2.1 (by rw [getD_set_ne _ (by decide)] at h; exact h)), (fun h => HFF.out.2.2.2.2.2.2.2.2.2.2.2.1 (by rw [getD_set_ne _ (by decide)] at h; exact h)), (fun h => HFF.out.2.2.2.2.2.2.2.2.2.2.2.2.1 (by rw [getD_set_ne _ (by decide)] at h; exact h)), (fun h => HFF.out.2.2.2.2.2.2.2.2.2.2.2.2.2.1 (by rw [getD_set_ne _ (by decide)] at h; exact h)), (fun h => HFF.out.2.2.2.2.2.2.2.2.2.2.2.2.2.2.1 (by rw [getD_set_ne _ (by decide)] at h; exact h)), (fun h => HFF.out.2.2.2.2.2.2.2.2.2.2.2.2.2.2.2.1 (by rw [getD_set_ne _ (by decide)] at h; exact h)), (fun h => HFF.out.2.2.2.2.2.2.2.2.2.2.2.2.2.2.2.2.1 (by rw [getD_set_ne _ (by decide)] at h; exact h)), (fun h => HFF.out.2.2.2.2.2.2.2.2.2.2.2.2.2.2.2.2.2.1 (by rw [getD_set_ne _ (by decide)] at h; exact h)), (fun h => HFF.out.2.2.2.2.2.2.2.2.2.2.2.2.2.2.2.2.2.2.1 (by rw [getD_set_ne _ (by decide)] at h; exact h)), (fun h => HFF.out.2.2.2.2.2.2.2.2.2.2.2.2.2.2.2.2.2.2.2.1 (by rw [getD_set_ne _ (by decide)] at h; exact h)), (fun h => HFF.out.2.2.2.2.2.2.2.2.2.2.2.2.2.2.2.2.2.2.2.2.1 (by rw [getD_set_ne _ (by decide)] at h; exact h)), (fun h => HFF.out.2.2.2.2.2.2.2.2.2.2.2.2.2.2.2.2.2.2.2.2.2.1 (by rw [getD_set_ne _ (by decide)] at h; exact h)), (fun h => HFF.out.2.2.2.2.2.2.2.2.2.2.2.2.2.2.2.2.2.2.2.2.2.2.1 (by rw [getD_set_ne _ (by decide)] at h; exact h)), (fun _ => rfl), ?_⟩
            rw [getD_set_ne (i := 25) (j := 22) _ (by decide)]
            rw [getD_set_ne (i := 25) (j := 24) _ (by decide)]
            rw [getD_set_ne (i := 25) (j := 26) _ (by decide)]
            exact HW.out
          · cases ho
            have e25 := f25 (HAF.out ⟨25, .data⟩ (by simp) rfl)
            have e20 := f20 (HAF.out ⟨20, .data⟩ (by simp) rfl)
            have HUN := Lib.hid hun
            have cc := (HW.out.1.cell 4)
            simp only [hcs, List.getElem?_toArray, List.getElem?_cons_zero, List.getElem?_cons_succ] at cc
            have yy := HW.out.1.fr 4
            have HFF := Lib.hid (And.intro f0 ( And.intro f1 ( And.intro f2 ( And.intro f3 ( And.intro f4 ( And.intro f5 ( And.intro f6 ( And.intro f7 ( And.intro f8 ( And.intro f9 ( And.intro f10 ( And.intro f11 ( And.intro f12 ( And.intro f13 ( And.intro f14 ( And.intro f15 ( And.intro f16 ( And.intro f17 ( And.intro f18 ( And.intro f19 ( And.intro f20 ( And.intro f21 ( And.intro f23 (f25))))))))))))))))))))))))
            clear f0 f1 f2 f3 f4 f5 f6 f7 f8 f9 f10 f11 f12 f13 f14 f15 f16 f17 f18 f19 f20 f21 f23 f25 hun
            refine Ri9.wpOp_list rfl ?_
            go_wp2
            refine (HJ3.out _ _ _).2 ⟨v, by simp [e25, e20], (fun h => HFF.out.1 (by rw [getD_set_ne _ (by decide)] at h; exact h)), (fun h => HFF.out.2.1 (by rw [getD_set_ne _ (by decide)] at h; exact h)), (fun h => HFF.out.2.2.1 (by rw [getD_set_ne _ (by decide)] at h; exact h)), (fun h => HFF.out.2.2.2.1 (by rw [getD_set_ne _ (by decide)] at h; exact h)), (fun h => HFF.out.2.2.2.2.1 (by rw [getD_set_ne _ (by decide)] at h; exact h)), (fun h => HFF.out.2.2.2.2.2.1 (by rw [getD_set_ne _ (by decide)] at h; exact h)), (fun h => HFF.out.2.2.2.2.2.2.1 (by rw [getD_set_ne _ (by decide)] at h; exact h)), (fun h => HFF.out.2.2.2.2.2.2.2.1 (by rw [getD_set_ne _ (by decide)] at h; exact h)), (fun h => HFF.out.2.2.2.2.2.2.2.2.1 (by rw [getD_set_ne _ (by decide)] at h; exact h)), (fun h => HFF.out.2.2.2.2.2.2.2.2.2.1 (by rw [getD_set_ne _ (by decide)] at h; exact h)), (fun h => HFF.out.2.2.2.2.2.2.2.2.2.2.1 (by rw [getD_set_ne _ (by decide)] at h; exact h)), (fun h => HFF.out.2.2.2.2.2.2.2.2.2.2.2.1 (by rw [getD_set_ne _ (by decide)] at h; exact h)), (fun h => HFF.out.2.2.2.2.2.2.2.2.2.2.2.2.1 (by rw [getD_set_ne _ (by decide)] at h; exact h)), (fun h => HFF.out.2.2.2.2.2.2.2.2.2.2.2.2.2.1 (by rw [getD_set_ne _ (by decide)] at h; exact h)), (fun h => HFF.out.2.2.2.2.2.2.2.2.2.2.2.2.2.2.1 (by rw [getD_set_ne _ (by decide)] at h; exact h)), (fun h => HFF.out.2.2.2.2.2.2.2.2.2.2.2.2.2.2.2.1 (by rw [getD_set_ne _ (by decide)] at h; exact h)), (fun h => HFF.out.2.2.2.2.2.2.2.2.2.2.2.2.2.2.2.2.1 (by rw [getD_set_ne _ (by decide)] at h; exact h)), (fun h => HFF.out.2.2.2.2.2.2.2.2.2.2.2.2.2.2.2.2.2.1 (by rw [getD_set_ne _ (by decide)] at h; exact h)), (fun h => HFF.out.2.2.2.2.2.2.2.2.2.2.2.2.2.2.2.2.2.2.1 (by rw [getD_set_ne _ (by decide)] at h; exact h)), (fun h => HFF.out.2.2.2.2.2.2.2.2.2.2.2.2.2.2.2.2.2.2.2.1 (by rw [getD_set_ne _ (by decide)] at h; exact h)), (fun h => HFF.out.2.2.2.2.2.2.2.2.2.2.2.2.2.2.2.2.2.2.2.2.1 (by rw [getD_set_ne _ (by decide)] at h; exact h)), (fun h => HFF.out.2.2.2.2.2.2.2.2.2.2.2.2.2.2.2.2.2.2.2.2.2.1 (by rw [getD_set_ne _ (by decide)] at h; exact h)), (fun h => HFF.out.2.2.2.2.2.2.2.2.2.2.2.2.2.2.2.2.2.2.2.2.2.2.1 (by rw [getD_set_ne _ (by decide)] at h; exact h)), (fun h => HFF.out.2.2.2.2.2.2.2.2.2.2.2.2.2.2.2.2.2.2.2.2.2.2.2 (by rw [getD_set_ne _ (by decide)] at h; exact h)), ?_⟩
            rw [getD_set_ne (i := 26) (j := 22) _ (by decide)]
            rw [getD_set_ne (i := 26) (j := 24) _ (by decide)]
            rw [get_set HUN.out]
            exact QW.st4 HW.out
          · exact absurd ho (by simp)
        · intro li a W hJ3 hall
          obtain ⟨v, rfl, f0, f1, f2, f3, f4, f5, f6, f7, f8, f9, f10, f11, f12, f13, f14, f15, f16, f17, f18, f19, f20, f21, f23, f25, hw⟩ := (HJ3.out _ _ _).1 hJ3
          rw [hall 22 (by show 22 < 27; omega)] at hw
          rw [hall 24 (by show 24 < 27; omega)] at hw
          rw [hall 26 (by show 26 < 27; omega)] at hw
          have HW := Lib.hid hw
          clear hw hall hJ3 f0 f1 f2 f3 f4 f5 f6 f7 f8 f9 f10 f11 f12 f13 f14 f15 f16 f17 f18 f19 f20 f21 f23 f25
          go_wp2
          go_roundw
          case rel => exact ⟨k + 1, _, rfl, by omega, by go_num, by rw [HLT.out.1, HLT.out.2.1, HLT.out.2.2]; exact HW.out.1, HW.out.2.1, HW.out.2.2⟩
          case measure => simp [intOf]; omega
      · obtain rfl : k = n := by omega
        have e1 := mnk_all x k HN.out
        have e2 := mxk_all x k HN.out
        have e3 : (x.take k).sum = x.sum := by rw [List.take_of_length_le (by have := HN.out; omega)]
        rw [e1, e2, e3] at hb
        obtain ⟨m, hm⟩ : ∃ m, mn x = m := ⟨_, rfl⟩
        obtain ⟨M, hM⟩ : ∃ m, mx x = m := ⟨_, rfl⟩
        obtain ⟨s, hs⟩ : ∃ m, x.sum = m := ⟨_, rfl⟩
        rw [hm, hM, hs] at hb
        have HMS := Lib.hid (And.intro hm (And.intro hM hs))
        have v0 := hb.cell 0
        have v1 := hb.cell 1
        have v2 := hb.cell 2
        have v3 := hb.cell 3
        have v4 := hb.cell 4
        have d0 := hb0.cell 0
        have d1 := hb0.cell 1
        have d2 := hb0.cell 2
        have d3 := hb0.cell 3
        have d4 := hb0.cell 4
        have y0 := hb0.fr 0
        have y1 := hb0.fr 1
        have y2 := hb0.fr 2
        have y3 := hb0.fr 3
        have y4 := hb0.fr 4
        simp only [hcs, List.getElem?_toArray, List.getElem?_cons_zero, List.getElem?_cons_succ] at d0 d1 d2 d3 d4 v0 v1 v2 v3 v4
        clear hb hb0 hbe e1 e2 e3 hm hM hs HB
        go_wp2
        exact bodyPost_ret (v := hdv 0 (k : Int) m M s) (results_h1 Try.results15 _ _ w.heap.size 0 (k : Int) m M s rfl (((((HB0.out.st 0 (.int .i64 0)).st 1 (.int .i64 (k : Int))).st 2 (.int .i64 m)).st 3 (.int .i64 M)).st 4 (.int .i64 s))) rfl ⟨by rw [HMS.out.1, HMS.out.2.1, HMS.out.2.2], ((((HX.out.st (Nat.le_refl _) _).st (Nat.le_refl _) _).st (Nat.le_refl _) _).st (Nat.le_refl _) _).st (Nat.le_refl _) _⟩
end Go.Proofs.Ytaplbkfmedofcaa.Sg
