/- That the law WordOrder returns true for every input that can be read, and leaves its arguments as they were; no further condition. -/
import Derived.Test.YtgdhgeongdenpaaRows
import Derived.WalkKit
import Derived.ProofKit
import Derived.OpenShut
import Derived.Test.YtgdhgeongdenpaaWords
import Derived.Test.YtgdhgeongdenpaaSrcNew0
import Derived.Test.YtgdhgeongdenpaaWd15
import Derived.Test.YtgdhgeongdenpaaWd13
import Derived.Test.YtgdhgeongdenpaaWdY
import Derived.ShutString
import Derived.ChangeOld
import Derived.Below
namespace Go.Proofs.Ytgdhgeongdenpaa.wordOrder
open Go.ChangeShapes Go.WideShapes Go.ChangeAt Go.RowKit Wo
open Go.ChangeMaps (open_string shut_string)
set_option linter.unusedVariables false

theorem own : ownKnob Try.prog.godebug = none := by kernel_rfl
theorem laidOut : laidOutB Try.prog = true := by kernel_rfl

/-- WHAT THE WALK IS TOLD OF A SLICE OF INTEGERS THAT CAME IN: it is nil; or it leads to a row of 'cap' cells, the numbers 'zs' (the first 'len' are its elements, the rest its spare room), each fitting its kind. -/
def IsRow (k : IntKind) (w : World) (a : Option Addr) (len cap : Nat) (zs : List Int) : Prop :=
  (a = none ∧ len = 0 ∧ cap = 0 ∧ zs = []) ∨
  ∃ x, a = some x ∧ len ≤ cap ∧ cap ≤ maxLen ∧ zs.length = cap ∧ (∀ i, i < zs.length → w.cell? (x.add i) = some (.int k (zs.getD i 0))) ∧ ∀ n ∈ zs, (Lit.int k n).wf = true

def opN : Oper := ⟨none, .store 22 (.tmp 170) (.tmp 164), 0, "law.go:201", #[⟨18, .data⟩, ⟨12, .data⟩, ⟨17, .chain⟩, ⟨0, .phase⟩, ⟨1, .phase⟩, ⟨2, .phase⟩, ⟨3, .phase⟩, ⟨4, .phase⟩, ⟨5, .phase⟩, ⟨6, .phase⟩, ⟨7, .phase⟩, ⟨8, .phase⟩, ⟨9, .phase⟩, ⟨10, .phase⟩, ⟨11, .phase⟩, ⟨12, .phase⟩, ⟨13, .phase⟩, ⟨14, .phase⟩, ⟨15, .textOnly Departure.lateStores⟩, ⟨16, .textOnly Departure.lateStores⟩, ⟨17, .textOnly Departure.lateStoresUnsure⟩], none⟩
open Go.Proofs.Ytgdhgeongdenpaa.Wd Go.Proofs.Ytgdhgeongdenpaa.Rt Go.Proofs.Ytgdhgeongdenpaa.Nr Go.Proofs.Ytgdhgeongdenpaa.Pc Go.Proofs.Ytgdhgeongdenpaa.Wi Go.Proofs.Ytgdhgeongdenpaa.Wo Go.Proofs.Ytgdhgeongdenpaa.Sr in
open List (setIfInBounds_toArray set_cons_zero set_cons_succ getElem?_toArray getElem?_cons_zero getElem?_cons_succ) in
set_option maxHeartbeats 16000000 in
set_option maxRecDepth 100000 in
set_option linter.unusedSimpArgs false in
theorem walk (a0 : Option Addr) (len0 cap0 : Nat) (z0 : List Int) (a1 : Int) (w : World) (w0 : IsRow .i64 w a0 len0 cap0 z0) (w1 : (Lit.int .u8 a1).wf = true) :
    Calls Try.prog 6 #[.slice a0 len0 cap0, .int .u8 a1] w fun e w' => e = .returned (.bool true) ∧ Below w.heap.size w w' := by
  have w1' := bounds_u8 w1
  have HA1 := Lib.hid w1'
  clear w1 w1'
  have AW : Hid (∀ W, Calls Try.prog 19 #[] W fun e w' => e = .returned (.bool true) ∧ Bel W w') := awake_any
  go_enter Try.func6, Try.ntmps6
  go_wp2_with fail
  go_at_call 10
  refine (new_any a0 len0 cap0 z0 w w0).mono ?_
  rintro e v1 ⟨g, rfl, hg, ho1, hb1⟩
  have HO1 := Lib.hid ho1
  have HB1 := Lib.hid hb1
  clear ho1 hb1 w0
  go_wp2_with fail
  go_at_call 11
  refine (scheme_any g _ (HO1.out.bel (by repeat (first | exact Bel.rf | with_reducible refine Bel.drwN ?_ _ | with_reducible refine Bel.drw ?_ | with_reducible refine Bel.al ?_ _)))).mono ?_
  rintro e v2 ⟨k, b, q, m, n, A, nc, cc, C, rfl, hs, hown, hCl, ho2, hc2⟩
  have HS := Lib.hid hs
  have HO2 := Lib.hid ho2
  have HGL : Hid (g < v1.heap.size) := HO1.out.lt
  have HB2 : Hid (Bel w v2) := Bel.ch HB1.out ((Ch.of_bel (by repeat (first | exact Bel.rf | with_reducible refine Bel.drwN ?_ _ | with_reducible refine Bel.drw ?_ | with_reducible refine Bel.al ?_ _))).tr hc2) hg
  have HFA : Hid (Fz v1 A nc) := own_fz hown (by first | exact Nat.le_refl _ | (simp; done))
  obtain ⟨A', c', e', hz⟩ := own_zx hown hCl
  cases e'
  have HZ2 := Lib.hid hz
  have n1 := hs.n1
  have n8 := hs.n8
  have HN1 := Lib.hid n1
  have ni : (n : Int) ≤ 8 := by omega
  have ni1 : 1 ≤ (n : Int) := by omega
  have HG := Lib.hid hg
  clear hs hown hCl ho2 hc2 hz hg
  unfold Sx
  have LI : Hid (∀ W, Ok W g → Calls Try.prog 12 #[.pointer (some ⟨g, 0, none⟩), .int .i64 (m : Int)] W (SomeList g m W)) := fun W h => list_any g m (by have := HS.out.m32; omega) W h
  have OF : Hid (∀ hx c X W, Sam X → m ≤ c → Zi W A nc C → Zi W (some ⟨hx, 0, none⟩) m X → Calls Try.prog 13 #[.agg #[.int .i64 k, .int .i64 b, .int .i64 q, .int .i64 (m : Int), .int .i64 (n : Int), .slice A nc cc], .slice (some ⟨hx, 0, none⟩) m c] W (SomeOf n (Go.Proofs.Ytgdhgeongdenpaa.Wd.sys k C X m n) W)) := fun hx c X W h1 h2 h3 h4 => of_ok k b q m n A nc cc C hx c X HS.out h1 h2 W h3 h4
  have KS : Hid (∀ W, Bk W v2.heap.size 28 #[.int .i64 k, .int .i64 b, .int .i64 q, .int .i64 (m : Int), .int .i64 (n : Int), .slice A nc cc] → ((fun W => W.cell? ⟨v2.heap.size, 0, none⟩ = some (.int .i64 k) ∧ W.cell? ⟨v2.heap.size, 1, none⟩ = some (.int .i64 b) ∧ W.cell? ⟨v2.heap.size, 2, none⟩ = some (.int .i64 q) ∧ W.cell? ⟨v2.heap.size, 3, none⟩ = some (.int .i64 (m : Int)) ∧ W.cell? ⟨v2.heap.size, 4, none⟩ = some (.int .i64 (n : Int)) ∧ W.cell? ⟨v2.heap.size, 5, none⟩ = some (.slice A nc cc))) W) := fun W h => by
    have u0 := h.cell 0
    have u1 := h.cell 1
    have u2 := h.cell 2
    have u3 := h.cell 3
    have u4 := h.cell 4
    have u5 := h.cell 5
    simp only [getElem?_toArray, getElem?_cons_zero, getElem?_cons_succ] at u0 u1 u2 u3 u4 u5
    exact ⟨u0, u1, u2, u3, u4, u5⟩
  have HQ2 : Hid (g < v2.heap.size) := HO2.out.lt
  have HM2 : Hid (0 < m) := (by have := HS.out.m2; omega : _ < _)
  have HN8 := Lib.hid n8
  have nn := ne_self (n : Int)
  have HS0 : Hid (Wod n g v2 (v2.heap.size + 1) 0 ((v2.alloc (.cells #[.int .i64 k, .int .i64 b, .int .i64 q, .int .i64 (m : Int), .int .i64 (n : Int), .slice A nc cc] 28)).alloc (.cells #[.slice none 0 0, .slice none 0 0, .slice none 0 0, .slice none 0 0, .slice none 0 0, .slice none 0 0] 55)) #[.slice none 0 0, .slice none 0 0, .slice none 0 0, .slice none 0 0, .slice none 0 0, .slice none 0 0]) := ⟨HO2.out.bel ((Bel.rf.al _).al _), (Ch.rf.al _).al _, Bk.nq _ _ _ (by simp), rfl, fun j hj => by omega⟩
  have HX0 : Hid (Bk ((v2.alloc (.cells #[.int .i64 k, .int .i64 b, .int .i64 q, .int .i64 (m : Int), .int .i64 (n : Int), .slice A nc cc] 28)).alloc (.cells #[.slice none 0 0, .slice none 0 0, .slice none 0 0, .slice none 0 0, .slice none 0 0, .slice none 0 0] 55)) v2.heap.size 28 #[.int .i64 k, .int .i64 b, .int .i64 q, .int .i64 (m : Int), .int .i64 (n : Int), .slice A nc cc]) := (Bk.nw _ _ _).al _
  go_wp2_with fail
  go_loopw [22] (fun s22 wr => ∃ (i : Nat) (cs : Array Value) (V : World), V = wr ∧ i ≤ 3 ∧ s22 = .int .i64 (i : Int) ∧ Wod n g v2 (v2.heap.size + 1) i wr cs ∧ Bk wr v2.heap.size 28 #[.int .i64 k, .int .i64 b, .int .i64 q, .int .i64 (m : Int), .int .i64 (n : Int), .slice A nc cc]) (fun s22 _ => 3 - (intOf s22).toNat)
  case atStart => exact ⟨0, _, _, rfl, by omega, by go_num, HS0.out.up (by repeat (first | exact Bel.rf | with_reducible refine Bel.drwN ?_ _ | with_reducible refine Bel.drw ?_ | with_reducible refine Bel.al ?_ _)), (by repeat (first | exact HX0.out | with_reducible refine Bk.drwN ?_ _ | with_reducible refine Bk.drw ?_ | with_reducible refine Bk.al ?_ _))⟩
  case round =>
    obtain ⟨i, cs, wr, hwr, hi, rfl, hwo, hkx⟩ := hrel
    subst hwr
    have HWO := Lib.hid hwo
    have HKX := Lib.hid hkx
    clear hwo
    rcases Nat.lt_or_ge i 3 with hlt | hge
    · have ii : (i : Int) < 3 := by omega
      have i0 : (0 : Int) ≤ (i : Int) := by omega
      obtain ⟨o1, ho1⟩ : ∃ u, cs[i * 2]? = some u := by
        have := HWO.out.sz
        exact ⟨_, Array.getElem?_eq_getElem (by omega)⟩
      obtain ⟨o2, ho2⟩ : ∃ u, cs[i * 2 + 1]? = some u := by
        have := HWO.out.sz
        exact ⟨_, Array.getElem?_eq_getElem (by omega)⟩
      have HOO := Lib.hid (And.intro ho1 ho2)
      clear hkx ho1 ho2
      go_upto_region 8 with fail
      refine wp_region_noPanic ?_
      refine wp_region_held_drew (S := (fun W => W.cell? ⟨v2.heap.size, 0, none⟩ = some (.int .i64 k) ∧ W.cell? ⟨v2.heap.size, 1, none⟩ = some (.int .i64 b) ∧ W.cell? ⟨v2.heap.size, 2, none⟩ = some (.int .i64 q) ∧ W.cell? ⟨v2.heap.size, 3, none⟩ = some (.int .i64 (m : Int)) ∧ W.cell? ⟨v2.heap.size, 4, none⟩ = some (.int .i64 (n : Int)) ∧ W.cell? ⟨v2.heap.size, 5, none⟩ = some (.slice A nc cc))) (by kernel_rfl) ?_ (fun hH0 => ?_)
      · (try dsimp only); first | exact KS.out _ ((HX5.out.far (by dsimp only; omega) _).far (by dsimp only; omega) _) | exact KS.out _ (HX5.out.bel (by repeat (first | exact Bel.rf | with_reducible refine Bel.drwN ?_ _ | with_reducible refine Bel.drw ?_ | with_reducible refine Bel.al ?_ _))) | exact KS.out _ (HX4.out.bel (by repeat (first | exact Bel.rf | with_reducible refine Bel.drwN ?_ _ | with_reducible refine Bel.drw ?_ | with_reducible refine Bel.al ?_ _))) | exact KS.out _ (HKX.out.bel (by repeat (first | exact Bel.rf | with_reducible refine Bel.drwN ?_ _ | with_reducible refine Bel.drw ?_ | with_reducible refine Bel.al ?_ _)))
      refine wpAnyH_take (i := 0) (oi := ⟨some 26, .move (.tmp 8), 3, "law.go:180", #[], none⟩) (v := ?_) rfl (by kernel_rfl) (by kernel_rfl) (by kernel_rfl) (fun _ _ _ h => h) (Or.inl ⟨by kernel_rfl, ?_⟩) (by assumption) ?_
      rotate_left
      · (intro w hSw; (try dsimp only at hSw); obtain ⟨d0, d1, d2, d3, d4, d5⟩ := hSw; go_simp; try with_reducible rfl)
      try simp only [Act.put, setIfInBounds_toArray, set_cons_zero, set_cons_succ]
      refine wpAnyH_take (i := 1) (oi := ⟨some 27, .load 28 (.tmp 6), 28, "law.go:180", #[], none⟩) (v := ?_) rfl (by kernel_rfl) (by kernel_rfl) (by kernel_rfl) (fun _ _ _ h => h) (Or.inl ⟨by kernel_rfl, ?_⟩) (by assumption) ?_
      rotate_left
      · (intro w hSw; (try dsimp only at hSw); obtain ⟨d0, d1, d2, d3, d4, d5⟩ := hSw; go_simp; try with_reducible rfl)
      try simp only [Act.put, setIfInBounds_toArray, set_cons_zero, set_cons_succ]
      refine wpAnyH_take (i := 2) (oi := ⟨some 28, .move (.tmp 5), 23, "law.go:180", #[], none⟩) (v := ?_) rfl (by kernel_rfl) (by kernel_rfl) (by kernel_rfl) (fun _ _ _ h => h) (Or.inl ⟨by kernel_rfl, ?_⟩) (by assumption) ?_
      rotate_left
      · (intro w hSw; (try dsimp only at hSw); obtain ⟨d0, d1, d2, d3, d4, d5⟩ := hSw; go_simp; try with_reducible rfl)
      try simp only [Act.put, setIfInBounds_toArray, set_cons_zero, set_cons_succ]
      refine wpAnyH_take (i := 3) (oi := ⟨some 29, .fieldAddr 28 (.tmp 6) 1, 0, "law.go:180", #[], none⟩) (v := ?_) rfl (by kernel_rfl) (by kernel_rfl) (by kernel_rfl) (fun _ _ _ h => h) (Or.inl ⟨by kernel_rfl, ?_⟩) (by assumption) ?_
      rotate_left
      · (intro w hSw; (try dsimp only at hSw); obtain ⟨d0, d1, d2, d3, d4, d5⟩ := hSw; go_simp; try with_reducible rfl)
      try simp only [Act.put, setIfInBounds_toArray, set_cons_zero, set_cons_succ]
      refine wpAnyH_take (i := 4) (oi := ⟨some 30, .load 3 (.tmp 29), 3, "law.go:180", #[⟨3, .data⟩], none⟩) (v := ?_) rfl (by kernel_rfl) (by kernel_rfl) (by kernel_rfl) (fun _ _ _ h => h) (Or.inl ⟨by kernel_rfl, ?_⟩) (by assumption) ?_
      rotate_left
      · (intro w hSw; (try dsimp only at hSw); obtain ⟨d0, d1, d2, d3, d4, d5⟩ := hSw; go_simp; try with_reducible rfl)
      try simp only [Act.put, setIfInBounds_toArray, set_cons_zero, set_cons_succ]
      refine wpAnyH_ready (rs := [5]) (by kernel_rfl) (by simp) ?_
      refine AllReadyH.cons (o := ⟨some 31, .call { callee := Callee.value (.func 12), args := #[.tmp 28, .tmp 30], argTypes := #[23, 3] }, 22, "law.go:180", #[⟨2, .data⟩, ⟨4, .data⟩], none⟩) rfl (fun K hK => ?_) AllReadyH.nil
      go_simp
      go_at_call 12; refine (LI.out _ (HWO.out.ok.bel (by repeat (first | exact Bel.rf | with_reducible refine Bel.drwN ?_ _ | with_reducible refine Bel.drw ?_ | with_reducible refine Bel.al ?_ _)))).mono ?_; rintro e x4 ⟨vx, X, rfl, hox, hlx, hsx, ho4, hc4⟩; obtain ⟨hx, cx, rfl, mcx, hbx⟩ := row_form hox HM2.out; have HW4 : Hid (Wod n g v2 (v2.heap.size + 1) i x4 cs) := HWO.out.to (Nat.lt_succ_of_lt HQ2.out) ho4 ((Ch.of_bel (by repeat (first | exact Bel.rf | with_reducible refine Bel.drwN ?_ _ | with_reducible refine Bel.drw ?_ | with_reducible refine Bel.al ?_ _))).tr hc4); have HX4 : Hid (Bk x4 v2.heap.size 28 #[.int .i64 k, .int .i64 b, .int .i64 q, .int .i64 (m : Int), .int .i64 (n : Int), .slice A nc cc]) := hc4.bk (HKX.out.bel (by repeat (first | exact Bel.rf | with_reducible refine Bel.drwN ?_ _ | with_reducible refine Bel.drw ?_ | with_reducible refine Bel.al ?_ _))) (by have := HQ2.out; omega); have HOX : Hid (Zi x4 (some ⟨hx, 0, none⟩) m X) := own_zi hox hlx; have HSX := Lib.hid hsx; have HMC := Lib.hid mcx; clear hox hlx hsx ho4 hc4 mcx hbx
      try go_wp2_with fail
      refine hK.out _ _ ?_ (fun hH1 => ?_)
      · (try dsimp only); first | exact KS.out _ ((HX5.out.far (by dsimp only; omega) _).far (by dsimp only; omega) _) | exact KS.out _ (HX5.out.bel (by repeat (first | exact Bel.rf | with_reducible refine Bel.drwN ?_ _ | with_reducible refine Bel.drw ?_ | with_reducible refine Bel.al ?_ _))) | exact KS.out _ (HX4.out.bel (by repeat (first | exact Bel.rf | with_reducible refine Bel.drwN ?_ _ | with_reducible refine Bel.drw ?_ | with_reducible refine Bel.al ?_ _))) | exact KS.out _ (HKX.out.bel (by repeat (first | exact Bel.rf | with_reducible refine Bel.drwN ?_ _ | with_reducible refine Bel.drw ?_ | with_reducible refine Bel.al ?_ _)))
      clear hK K hH0
      try simp only [Act.put, setIfInBounds_toArray, set_cons_zero, set_cons_succ]
      refine wpAnyH_ready (rs := [6]) (by kernel_rfl) (by simp) ?_
      refine AllReadyH.cons (o := ⟨some 32, .call { callee := Callee.value (.func 13), args := #[.tmp 27, .tmp 31], argTypes := #[28, 22] }, 34, "law.go:180", #[⟨1, .data⟩, ⟨5, .data⟩, ⟨5, .chain⟩], none⟩) rfl (fun K hK => ?_) AllReadyH.nil
      go_simp
      go_at_call 13; refine (OF.out hx cx X _ HSX.out HMC.out ((zi_fz HZ2.out HW4.out.ch HFA.out HGL.out).bel (by repeat (first | exact Bel.rf | with_reducible refine Bel.drwN ?_ _ | with_reducible refine Bel.drw ?_ | with_reducible refine Bel.al ?_ _))) (HOX.out.bel (by repeat (first | exact Bel.rf | with_reducible refine Bel.drwN ?_ _ | with_reducible refine Bel.drw ?_ | with_reducible refine Bel.al ?_ _)))).mono ?_; rintro e x5 ⟨sF, bF, fc, fd, rfl, hzF, hzB, hb5, fF, fB⟩; have HB5 : Hid (Bel x4 x5) := Bel.tr (by repeat (first | exact Bel.rf | with_reducible refine Bel.drwN ?_ _ | with_reducible refine Bel.drw ?_ | with_reducible refine Bel.al ?_ _)) hb5; have HX5 : Hid (Bk x5 v2.heap.size 28 #[.int .i64 k, .int .i64 b, .int .i64 q, .int .i64 (m : Int), .int .i64 (n : Int), .slice A nc cc]) := HX4.out.bel HB5.out; have HW5 : Hid (Wod n g v2 (v2.heap.size + 1) i x5 cs) := HW4.out.up HB5.out; have HZ5 : Hid (Zi x5 sF n (Go.Proofs.Ytgdhgeongdenpaa.Wd.sys k C X m n) ∧ Zi x5 bF n (List.replicate n 4)) := ⟨hzF, hzB⟩; have HF5 : Hid (Fz x4 sF n ∧ Fz x4 bF n) := ⟨fun h0 ad e => Nat.le_trans (by (try simp)) (fF h0 ad e), fun h0 ad e => Nat.le_trans (by (try simp)) (fB h0 ad e)⟩; have y0 := HW5.out.bk.cell (i * 2); have y1 := HW5.out.bk.cell (i * 2 + 1); rw [HOO.out.1] at y0; rw [HOO.out.2] at y1; have z0 := HW5.out.bk.fr (i * 2); have z1 := HW5.out.bk.fr (i * 2 + 1); clear hb5 hzF hzB fF fB; unfold Wx
      try go_wp2_with fail
      refine hK.out _ _ ?_ (fun hH2 => ?_)
      · (try dsimp only); first | exact KS.out _ ((HX5.out.far (by dsimp only; omega) _).far (by dsimp only; omega) _) | exact KS.out _ (HX5.out.bel (by repeat (first | exact Bel.rf | with_reducible refine Bel.drwN ?_ _ | with_reducible refine Bel.drw ?_ | with_reducible refine Bel.al ?_ _))) | exact KS.out _ (HX4.out.bel (by repeat (first | exact Bel.rf | with_reducible refine Bel.drwN ?_ _ | with_reducible refine Bel.drw ?_ | with_reducible refine Bel.al ?_ _))) | exact KS.out _ (HKX.out.bel (by repeat (first | exact Bel.rf | with_reducible refine Bel.drwN ?_ _ | with_reducible refine Bel.drw ?_ | with_reducible refine Bel.al ?_ _)))
      clear hK K hH1
      try simp only [Act.put, setIfInBounds_toArray, set_cons_zero, set_cons_succ]
      refine wpAnyH_take (i := 7) (oi := ⟨some 25, .move (.tmp 32), 34, "law.go:180", #[⟨6, .data⟩], none⟩) (v := ?_) rfl (by kernel_rfl) (by kernel_rfl) (by kernel_rfl) (fun _ _ _ h => h) (Or.inl ⟨by kernel_rfl, ?_⟩) (by assumption) ?_
      rotate_left
      · (intro w hSw; (try dsimp only at hSw); obtain ⟨d0, d1, d2, d3, d4, d5⟩ := hSw; go_simp; try with_reducible rfl)
      try simp only [Act.put, setIfInBounds_toArray, set_cons_zero, set_cons_succ]
      refine wpAnyH_take (i := 8) (oi := ⟨some 33, .extract (.tmp 25) 0, 32, "law.go:180", #[⟨7, .data⟩], none⟩) (v := ?_) rfl (by kernel_rfl) (by kernel_rfl) (by kernel_rfl) (fun _ _ _ h => h) (Or.inl ⟨by kernel_rfl, ?_⟩) (by assumption) ?_
      rotate_left
      · (intro w hSw; (try dsimp only at hSw); obtain ⟨d0, d1, d2, d3, d4, d5⟩ := hSw; go_simp; try with_reducible rfl)
      try simp only [Act.put, setIfInBounds_toArray, set_cons_zero, set_cons_succ]
      refine wpAnyH_take (i := 9) (oi := ⟨some 34, .extract (.tmp 25) 1, 33, "law.go:180", #[⟨7, .data⟩, ⟨11, .gcOnly Departure.lateStores⟩], none⟩) (v := ?_) rfl (by kernel_rfl) (by kernel_rfl) (by kernel_rfl) (fun _ _ _ h => h) (Or.inl ⟨by kernel_rfl, ?_⟩) (by assumption) ?_
      rotate_left
      · (intro w hSw; (try dsimp only at hSw); obtain ⟨d0, d1, d2, d3, d4, d5⟩ := hSw; go_simp; try with_reducible rfl)
      try simp only [Act.put, setIfInBounds_toArray, set_cons_zero, set_cons_succ]
      refine wpAnyH_take (i := 10) (oi := ⟨some 35, .indexAddr 55 (.tmp 7) (.tmp 26), 0, "law.go:180", #[⟨0, .data⟩, ⟨0, .phase⟩, ⟨1, .phase⟩, ⟨2, .phase⟩, ⟨3, .phase⟩, ⟨4, .phase⟩, ⟨5, .phase⟩, ⟨6, .phase⟩, ⟨7, .phase⟩, ⟨8, .phase⟩, ⟨9, .textOnly Departure.lateStores⟩], none⟩) (v := ?_) rfl (by kernel_rfl) (by kernel_rfl) (by kernel_rfl) (fun _ _ _ h => h) (Or.inl ⟨by kernel_rfl, ?_⟩) (by assumption) ?_
      rotate_left
      · (intro w hSw; (try dsimp only at hSw); obtain ⟨d0, d1, d2, d3, d4, d5⟩ := hSw; go_simp; try with_reducible rfl)
      try simp only [Act.put, setIfInBounds_toArray, set_cons_zero, set_cons_succ]
      refine wpAnyH_ready (rs := [11]) (by kernel_rfl) (by simp) ?_
      refine AllReadyH.cons (o := ⟨none, .store 32 (.tmp 35) (.tmp 33), 0, "law.go:180", #[⟨10, .data⟩, ⟨8, .data⟩, ⟨6, .chain⟩, ⟨0, .phase⟩, ⟨1, .phase⟩, ⟨2, .phase⟩, ⟨3, .phase⟩, ⟨4, .phase⟩, ⟨5, .phase⟩, ⟨6, .phase⟩, ⟨7, .phase⟩, ⟨8, .phase⟩, ⟨9, .textOnly Departure.lateStores⟩], none⟩) rfl (fun K hK => ?_) AllReadyH.nil
      go_simp
      skip
      try go_wp2_with fail
      refine hK.out _ _ ?_ (fun hH3 => ?_)
      · (try dsimp only); first | exact KS.out _ ((HX5.out.far (by dsimp only; omega) _).far (by dsimp only; omega) _) | exact KS.out _ (HX5.out.bel (by repeat (first | exact Bel.rf | with_reducible refine Bel.drwN ?_ _ | with_reducible refine Bel.drw ?_ | with_reducible refine Bel.al ?_ _))) | exact KS.out _ (HX4.out.bel (by repeat (first | exact Bel.rf | with_reducible refine Bel.drwN ?_ _ | with_reducible refine Bel.drw ?_ | with_reducible refine Bel.al ?_ _))) | exact KS.out _ (HKX.out.bel (by repeat (first | exact Bel.rf | with_reducible refine Bel.drwN ?_ _ | with_reducible refine Bel.drw ?_ | with_reducible refine Bel.al ?_ _)))
      clear hK K hH2
      try simp only [Act.put, setIfInBounds_toArray, set_cons_zero, set_cons_succ]
      refine wpAnyH_take (i := 12) (oi := ⟨some 9, .assign (.tmp 34), 33, "law.go:180", #[⟨9, .data⟩, ⟨11, .chain⟩, ⟨0, .phase⟩, ⟨1, .phase⟩, ⟨2, .phase⟩, ⟨3, .phase⟩, ⟨4, .phase⟩, ⟨5, .phase⟩, ⟨6, .phase⟩, ⟨7, .phase⟩, ⟨8, .phase⟩, ⟨9, .phase⟩, ⟨10, .phase⟩, ⟨11, .phase⟩], none⟩) (v := ?_) rfl (by kernel_rfl) (by kernel_rfl) (by kernel_rfl) (fun _ _ _ h => h) (Or.inl ⟨by kernel_rfl, ?_⟩) (by assumption) ?_
      rotate_left
      · (intro w hSw; (try dsimp only at hSw); obtain ⟨d0, d1, d2, d3, d4, d5⟩ := hSw; go_simp; try with_reducible rfl)
      try simp only [Act.put, setIfInBounds_toArray, set_cons_zero, set_cons_succ]
      refine wpAnyH_done (by kernel_rfl) ?_ _
      refine NoPanic.normal ?_
      have HS4 := HW4.out.ch.sz
      have HW6 := HW5.out.next (F := Go.Proofs.Ytgdhgeongdenpaa.Wd.sys k C X m n) (fc := fc) (fd := fd) hlt (Nat.lt_succ_of_lt HQ2.out) (Nat.le_succ _) (sys_wv HS.out.cv k X m n) HZ5.out.1 HZ5.out.2 (fun h0 ad e => by have := HF5.out.1 h0 ad e; have := HW4.out.bk.lt; omega) (fun h0 ad e => by have := HF5.out.2 h0 ad e; have := HW4.out.bk.lt; omega)
      have HX6 : Hid (Bk ((x5.setCell ⟨v2.heap.size + 1, i * 2, none⟩ (.slice sF n fc)).setCell ⟨v2.heap.size + 1, i * 2 + 1, none⟩ (.slice bF n fd)) v2.heap.size 28 #[.int .i64 k, .int .i64 b, .int .i64 q, .int .i64 (m : Int), .int .i64 (n : Int), .slice A nc cc]) := (HX5.out.far (by dsimp only; omega) _).far (by dsimp only; omega) _
      have HWD6 := Lib.hid HW6
      have e0 := HX6.out.cell 4
      have e1 : ((x5.setCell ⟨v2.heap.size + 1, i * 2, none⟩ (.slice sF n fc)).setCell ⟨v2.heap.size + 1, i * 2 + 1, none⟩ (.slice bF n fd)).cell? ⟨v2.heap.size + 1, i * 2, none⟩ = some (.slice sF n fc) := by
        rw [HW6.bk.cell, Array.getElem?_setIfInBounds_ne (by omega), Array.getElem?_setIfInBounds_self_of_lt (by rw [HW5.out.sz]; omega)]
      have e2 : ((x5.setCell ⟨v2.heap.size + 1, i * 2, none⟩ (.slice sF n fc)).setCell ⟨v2.heap.size + 1, i * 2 + 1, none⟩ (.slice bF n fd)).cell? ⟨v2.heap.size + 1, i * 2 + 1, none⟩ = some (.slice bF n fd) := by
        rw [HW6.bk.cell, Array.getElem?_setIfInBounds_self_of_lt (by simp [HW5.out.sz]; omega)]
      simp only [getElem?_toArray, getElem?_cons_zero, getElem?_cons_succ] at e0
      clear HW6 y0 y1 z0 z1 HS4
      obtain ⟨v6, hv6⟩ : ∃ V, ((x5.setCell ⟨v2.heap.size + 1, i * 2, none⟩ (.slice sF n fc)).setCell ⟨v2.heap.size + 1, i * 2 + 1, none⟩ (.slice bF n fd)) = V := ⟨_, rfl⟩
      rw [hv6] at HX6 HWD6 e0 e1 e2
      go_wp2_with fail
      rw [hv6]
      clear hv6
      go_quiet (fail)
      go_wp2
      go_roundw
      case rel => exact ⟨i + 1, _, _, rfl, by omega, by go_num, HWD6.out.up (by repeat (first | exact Bel.rf | with_reducible refine Bel.drwN ?_ _ | with_reducible refine Bel.drw ?_ | with_reducible refine Bel.al ?_ _)), (by repeat (first | exact HX6.out | with_reducible refine Bk.drwN ?_ _ | with_reducible refine Bk.drw ?_ | with_reducible refine Bk.al ?_ _))⟩
      case measure => simp [intOf]; omega
    · obtain rfl : i = 3 := by omega
      obtain ⟨sA, bA, sc, bc, F0, p1, p2, hF0, zs0, zb0, fs0, fb0⟩ := HWO.out.wd 0 (by decide)
      obtain ⟨tA, cA, tc, ct, F1, p3, p4, hF1, zs1, zb1, fs1, fb1⟩ := HWO.out.wd 1 (by decide)
      obtain ⟨uA, dA, uc, dc, F2, p5, p6, hF2, zs2, zb2, fs2, fb2⟩ := HWO.out.wd 2 (by decide)
      have HP : Hid (cs[0]? = some (.slice sA n sc) ∧ cs[1]? = some (.slice bA n bc) ∧ cs[2]? = some (.slice tA n tc) ∧ cs[3]? = some (.slice cA n ct) ∧ cs[4]? = some (.slice uA n uc) ∧ cs[5]? = some (.slice dA n dc)) := ⟨by simpa using p1, by simpa using p2, by simpa using p3, by simpa using p4, by simpa using p5, by simpa using p6⟩
      have HZZ : Hid ((Zi wr sA n F0 ∧ Zi wr bA n (List.replicate n 4)) ∧ (Zi wr tA n F1 ∧ Zi wr cA n (List.replicate n 4)) ∧ (Zi wr uA n F2 ∧ Zi wr dA n (List.replicate n 4))) := ⟨⟨zs0, zb0⟩, ⟨zs1, zb1⟩, ⟨zs2, zb2⟩⟩
      have HFF : Hid ((∀ ad, sA = some ad → ad.block ≠ g) ∧ (∀ ad, bA = some ad → ad.block ≠ g) ∧ (∀ ad, tA = some ad → ad.block ≠ g) ∧ (∀ ad, cA = some ad → ad.block ≠ g) ∧ (∀ ad, uA = some ad → ad.block ≠ g) ∧ (∀ ad, dA = some ad → ad.block ≠ g)) := by
        have h0 := HN1.out
        have h1 := HQ2.out
        exact ⟨fun ad e => by have := fs0 h0 ad e; omega, fun ad e => by have := fb0 h0 ad e; omega, fun ad e => by have := fs1 h0 ad e; omega, fun ad e => by have := fb1 h0 ad e; omega, fun ad e => by have := fs2 h0 ad e; omega, fun ad e => by have := fb2 h0 ad e; omega⟩
      have HVV : Hid (Wv n F0 (List.replicate n 4) ∧ Wv n F1 (List.replicate n 4) ∧ Wv n F2 (List.replicate n 4)) := ⟨hF0, hF1, hF2⟩
      have KS12H : Hid (∀ V, Ch g wr V → (fun W => W.cell? ⟨v2.heap.size, 0, none⟩ = some (.int .i64 k) ∧ W.cell? ⟨v2.heap.size, 1, none⟩ = some (.int .i64 b) ∧ W.cell? ⟨v2.heap.size, 2, none⟩ = some (.int .i64 q) ∧ W.cell? ⟨v2.heap.size, 3, none⟩ = some (.int .i64 (m : Int)) ∧ W.cell? ⟨v2.heap.size, 4, none⟩ = some (.int .i64 (n : Int)) ∧ W.cell? ⟨v2.heap.size, 5, none⟩ = some (.slice A nc cc) ∧ W.cell? ⟨v2.heap.size + 1, 0, none⟩ = some (.slice sA n sc) ∧ W.cell? ⟨v2.heap.size + 1, 1, none⟩ = some (.slice bA n bc) ∧ W.cell? ⟨v2.heap.size + 1, 2, none⟩ = some (.slice tA n tc) ∧ W.cell? ⟨v2.heap.size + 1, 3, none⟩ = some (.slice cA n ct) ∧ W.cell? ⟨v2.heap.size + 1, 4, none⟩ = some (.slice uA n uc) ∧ W.cell? ⟨v2.heap.size + 1, 5, none⟩ = some (.slice dA n dc)) V) := fun V hV => by
        have hb := hV.bk HWO.out.bk (by have := HQ2.out; omega)
        have hs := KS.out V (hV.bk hkx (by have := HQ2.out; omega))
        obtain ⟨d0, d1, d2, d3, d4, d5⟩ := hs
        exact ⟨d0, d1, d2, d3, d4, d5, (hb.cell 0).trans HP.out.1, (hb.cell 1).trans HP.out.2.1, (hb.cell 2).trans HP.out.2.2.1, (hb.cell 3).trans HP.out.2.2.2.1, (hb.cell 4).trans HP.out.2.2.2.2.1, (hb.cell 5).trans HP.out.2.2.2.2.2⟩
      have HZA : Hid (∀ V, Ch g wr V → Zi V A nc C) := fun V hV => zi_fz HZ2.out (HWO.out.ch.tr hV) HFA.out HGL.out
      have HZ0 : Hid (∀ V, Ch g wr V → Zi V sA n F0 ∧ Zi V bA n (List.replicate n 4)) := fun V hV => ⟨HZZ.out.1.1.ch hV HFF.out.1, HZZ.out.1.2.ch hV HFF.out.2.1⟩
      have HZ1 : Hid (∀ V, Ch g wr V → Zi V tA n F1 ∧ Zi V cA n (List.replicate n 4)) := fun V hV => ⟨HZZ.out.2.1.1.ch hV HFF.out.2.2.1, HZZ.out.2.1.2.ch hV HFF.out.2.2.2.1⟩
      have HZ3 : Hid (∀ V, Ch g wr V → Zi V uA n F2 ∧ Zi V dA n (List.replicate n 4)) := fun V hV => ⟨HZZ.out.2.2.1.ch hV HFF.out.2.2.2.2.1, HZZ.out.2.2.2.ch hV HFF.out.2.2.2.2.2⟩
      have HWW : Hid (∀ V, Ch g wr V → Bel w V) := fun V hV => Bel.ch HB2.out (HWO.out.ch.tr hV) HG.out
      have I0 := full_in hF0
      have I1 := full_in hF1
      have I2 := full_in hF2
      have CMP : Hid (∀ (xA yA : Option Addr) (xc yc : Nat) (G : List Int) (xA' yA' : Option Addr) (xc' yc' : Nat) (G' : List Int) (W : World), Ch g wr W → Wv n G (List.replicate n 4) → Wv n G' (List.replicate n 4) → Zi W xA n G → Zi W yA n (List.replicate n 4) → Zi W xA' n G' → Zi W yA' n (List.replicate n 4) → ∀ z, cm (shf n G : Int) (shf n G' : Int) = z → Calls Try.prog 23 #[.agg #[.int .i64 k, .int .i64 b, .int .i64 q, .int .i64 (m : Int), .int .i64 (n : Int), .slice A nc cc], .agg #[.slice xA n xc, .slice yA n yc], .agg #[.slice xA' n xc', .slice yA' n yc']] W fun e w' => e = .returned (.int .i64 z) ∧ Bel W w') := fun xA yA xc yc G xA' yA' xc' yc' G' W hW h1 h2 z1 z2 z3 z4 z hz => by
        rw [← hz]
        exact cmp_ok k b q m n A xA yA xA' yA' nc cc xc yc xc' yc' C G _ G' _ HS.out h1 h2 (four_at n) (four_at n) (full_in h1) (full_in h2) W (HZA.out W hW) z1 z2 z3 z4
      obtain ⟨a, ha⟩ : ∃ z, cm (shf n F0 : Int) (shf n F1 : Int) = z := ⟨_, rfl⟩
      obtain ⟨b', hb'⟩ : ∃ z, cm (shf n F1 : Int) (shf n F2 : Int) = z := ⟨_, rfl⟩
      obtain ⟨c, hc⟩ : ∃ z, cm (shf n F0 : Int) (shf n F2 : Int) = z := ⟨_, rfl⟩
      obtain ⟨d, hd⟩ : ∃ z, cm (shf n F1 : Int) (shf n F0 : Int) = z := ⟨_, rfl⟩
      obtain ⟨sm, hsm⟩ : ∃ z, decide (F0 = F1) = z := ⟨_, rfl⟩
      have HRL : Hid ((a = -1 ∨ a = 0 ∨ a = 1) ∧ (b' = -1 ∨ b' = 0 ∨ b' = 1) ∧ d = -a ∧ sm = decide (a = 0) ∧ (a ≤ 0 → b' ≤ 0 → c ≤ 0) ∧ (0 ≤ a → 0 ≤ b' → 0 ≤ c) ∧ (a ≤ 0 → shf n F0 ≤ shf n F1) ∧ (b' ≤ 0 → shf n F1 ≤ shf n F2)) := by
        show _ ∧ _
        rw [← ha, ← hb', ← hc, ← hd, ← hsm]
        exact cm_rel hF0.1 hF1.1 I0 I1
      have C01 : Hid (∀ W, Ch g wr W → Calls Try.prog 23 #[.agg #[.int .i64 k, .int .i64 b, .int .i64 q, .int .i64 (m : Int), .int .i64 (n : Int), .slice A nc cc], .agg #[.slice sA n sc, .slice bA n bc], .agg #[.slice tA n tc, .slice cA n ct]] W fun e w' => e = .returned (.int .i64 a) ∧ Bel W w') := fun W hW => CMP.out _ _ _ _ F0 _ _ _ _ F1 W hW HVV.out.1 HVV.out.2.1 (HZ0.out W hW).1 (HZ0.out W hW).2 (HZ1.out W hW).1 (HZ1.out W hW).2 a ha
      have C12 : Hid (∀ W, Ch g wr W → Calls Try.prog 23 #[.agg #[.int .i64 k, .int .i64 b, .int .i64 q, .int .i64 (m : Int), .int .i64 (n : Int), .slice A nc cc], .agg #[.slice tA n tc, .slice cA n ct], .agg #[.slice uA n uc, .slice dA n dc]] W fun e w' => e = .returned (.int .i64 b') ∧ Bel W w') := fun W hW => CMP.out _ _ _ _ F1 _ _ _ _ F2 W hW HVV.out.2.1 HVV.out.2.2 (HZ1.out W hW).1 (HZ1.out W hW).2 (HZ3.out W hW).1 (HZ3.out W hW).2 b' hb'
      have C02 : Hid (∀ W, Ch g wr W → Calls Try.prog 23 #[.agg #[.int .i64 k, .int .i64 b, .int .i64 q, .int .i64 (m : Int), .int .i64 (n : Int), .slice A nc cc], .agg #[.slice sA n sc, .slice bA n bc], .agg #[.slice uA n uc, .slice dA n dc]] W fun e w' => e = .returned (.int .i64 c) ∧ Bel W w') := fun W hW => CMP.out _ _ _ _ F0 _ _ _ _ F2 W hW HVV.out.1 HVV.out.2.2 (HZ0.out W hW).1 (HZ0.out W hW).2 (HZ3.out W hW).1 (HZ3.out W hW).2 c hc
      have C10 : Hid (∀ W, Ch g wr W → Calls Try.prog 23 #[.agg #[.int .i64 k, .int .i64 b, .int .i64 q, .int .i64 (m : Int), .int .i64 (n : Int), .slice A nc cc], .agg #[.slice tA n tc, .slice cA n ct], .agg #[.slice sA n sc, .slice bA n bc]] W fun e w' => e = .returned (.int .i64 d) ∧ Bel W w') := fun W hW => CMP.out _ _ _ _ F1 _ _ _ _ F0 W hW HVV.out.2.1 HVV.out.1 (HZ1.out W hW).1 (HZ1.out W hW).2 (HZ0.out W hW).1 (HZ0.out W hW).2 d hd
      have SAM : Hid (∀ W, Ch g wr W → Calls Try.prog 24 #[.agg #[.slice sA n sc, .slice bA n bc], .agg #[.slice tA n tc, .slice cA n ct]] W fun e w' => e = .returned (.bool sm) ∧ Bel W w') := fun W hW => by
        rw [← hsm]
        exact same_any n sA bA tA cA sc bc tc ct F0 F1 _ (by have := HN8.out; omega) W (HZ0.out W hW).1 (HZ0.out W hW).2 (HZ1.out W hW).1 (HZ1.out W hW).2
      have HOW := Lib.hid HWO.out.ok
      clear p1 p2 p3 p4 p5 p6 hF0 hF1 hF2 zs0 zb0 fs0 fb0 zs1 zb1 fs1 fb1 zs2 zb2 fs2 fb2 I0 I1 I2 ha hb' hc hd hsm hkx
      go_upto_region 12 with fail
      refine wp_region_noPanic ?_
      refine wp_region_held_drew (S := fun W => W.cell? ⟨v2.heap.size, 0, none⟩ = some (.int .i64 k) ∧ W.cell? ⟨v2.heap.size, 1, none⟩ = some (.int .i64 b) ∧ W.cell? ⟨v2.heap.size, 2, none⟩ = some (.int .i64 q) ∧ W.cell? ⟨v2.heap.size, 3, none⟩ = some (.int .i64 (m : Int)) ∧ W.cell? ⟨v2.heap.size, 4, none⟩ = some (.int .i64 (n : Int)) ∧ W.cell? ⟨v2.heap.size, 5, none⟩ = some (.slice A nc cc) ∧ W.cell? ⟨v2.heap.size + 1, 0, none⟩ = some (.slice sA n sc) ∧ W.cell? ⟨v2.heap.size + 1, 1, none⟩ = some (.slice bA n bc) ∧ W.cell? ⟨v2.heap.size + 1, 2, none⟩ = some (.slice tA n tc) ∧ W.cell? ⟨v2.heap.size + 1, 3, none⟩ = some (.slice cA n ct) ∧ W.cell? ⟨v2.heap.size + 1, 4, none⟩ = some (.slice uA n uc) ∧ W.cell? ⟨v2.heap.size + 1, 5, none⟩ = some (.slice dA n dc)) (by kernel_rfl) ?_ (fun hH0 => ?_)
      · (try dsimp only); exact KS12H.out _ (Ch.of_bel (by repeat (first | exact H3.out | exact H2.out | exact H1.out | exact Bel.rf | with_reducible refine Bel.drwN ?_ _ | with_reducible refine Bel.drw ?_ | with_reducible refine Bel.al ?_ _)))
      refine wpAnyH_take (i := 0) (oi := ⟨some 59, .load 28 (.tmp 6), 28, "law.go:185", #[], none⟩) (v := ?_) rfl (by kernel_rfl) (by kernel_rfl) (by kernel_rfl) (fun _ _ _ h => h) (Or.inl ⟨by kernel_rfl, ?_⟩) (by assumption) ?_
      rotate_left
      · (intro w hSw; (try dsimp only at hSw); obtain ⟨d0, d1, d2, d3, d4, d5, d6, d7, d8, d9, d10, d11⟩ := hSw; go_simp; try with_reducible rfl)
      try simp only [Act.put, setIfInBounds_toArray, set_cons_zero, set_cons_succ]
      refine wpAnyH_take (i := 1) (oi := ⟨some 60, .indexAddr 55 (.tmp 7) (.const (.int IntKind.i64 0)), 0, "law.go:185", #[], none⟩) (v := ?_) rfl (by kernel_rfl) (by kernel_rfl) (by kernel_rfl) (fun _ _ _ h => h) (Or.inl ⟨by kernel_rfl, ?_⟩) (by assumption) ?_
      rotate_left
      · (intro w hSw; (try dsimp only at hSw); obtain ⟨d0, d1, d2, d3, d4, d5, d6, d7, d8, d9, d10, d11⟩ := hSw; go_simp; try with_reducible rfl)
      try simp only [Act.put, setIfInBounds_toArray, set_cons_zero, set_cons_succ]
      refine wpAnyH_take (i := 2) (oi := ⟨some 61, .load 32 (.tmp 60), 32, "law.go:185", #[⟨1, .data⟩], none⟩) (v := ?_) rfl (by kernel_rfl) (by kernel_rfl) (by kernel_rfl) (fun _ _ _ h => h) (Or.inl ⟨by kernel_rfl, ?_⟩) (by assumption) ?_
      rotate_left
      · (intro w hSw; (try dsimp only at hSw); obtain ⟨d0, d1, d2, d3, d4, d5, d6, d7, d8, d9, d10, d11⟩ := hSw; go_simp; try with_reducible rfl)
      try simp only [Act.put, setIfInBounds_toArray, set_cons_zero, set_cons_succ]
      refine wpAnyH_take (i := 3) (oi := ⟨some 62, .indexAddr 55 (.tmp 7) (.const (.int IntKind.i64 1)), 0, "law.go:185", #[], none⟩) (v := ?_) rfl (by kernel_rfl) (by kernel_rfl) (by kernel_rfl) (fun _ _ _ h => h) (Or.inl ⟨by kernel_rfl, ?_⟩) (by assumption) ?_
      rotate_left
      · (intro w hSw; (try dsimp only at hSw); obtain ⟨d0, d1, d2, d3, d4, d5, d6, d7, d8, d9, d10, d11⟩ := hSw; go_simp; try with_reducible rfl)
      try simp only [Act.put, setIfInBounds_toArray, set_cons_zero, set_cons_succ]
      refine wpAnyH_take (i := 4) (oi := ⟨some 63, .load 32 (.tmp 62), 32, "law.go:185", #[⟨3, .data⟩], none⟩) (v := ?_) rfl (by kernel_rfl) (by kernel_rfl) (by kernel_rfl) (fun _ _ _ h => h) (Or.inl ⟨by kernel_rfl, ?_⟩) (by assumption) ?_
      rotate_left
      · (intro w hSw; (try dsimp only at hSw); obtain ⟨d0, d1, d2, d3, d4, d5, d6, d7, d8, d9, d10, d11⟩ := hSw; go_simp; try with_reducible rfl)
      try simp only [Act.put, setIfInBounds_toArray, set_cons_zero, set_cons_succ]
      refine wpAnyH_take (i := 6) (oi := ⟨some 65, .load 28 (.tmp 6), 28, "law.go:185", #[], none⟩) (v := ?_) rfl (by kernel_rfl) (by kernel_rfl) (by kernel_rfl) (fun _ _ _ h => h) (Or.inl ⟨by kernel_rfl, ?_⟩) (by assumption) ?_
      rotate_left
      · (intro w hSw; (try dsimp only at hSw); obtain ⟨d0, d1, d2, d3, d4, d5, d6, d7, d8, d9, d10, d11⟩ := hSw; go_simp; try with_reducible rfl)
      try simp only [Act.put, setIfInBounds_toArray, set_cons_zero, set_cons_succ]
      refine wpAnyH_take (i := 7) (oi := ⟨some 66, .indexAddr 55 (.tmp 7) (.const (.int IntKind.i64 1)), 0, "law.go:185", #[], none⟩) (v := ?_) rfl (by kernel_rfl) (by kernel_rfl) (by kernel_rfl) (fun _ _ _ h => h) (Or.inl ⟨by kernel_rfl, ?_⟩) (by assumption) ?_
      rotate_left
      · (intro w hSw; (try dsimp only at hSw); obtain ⟨d0, d1, d2, d3, d4, d5, d6, d7, d8, d9, d10, d11⟩ := hSw; go_simp; try with_reducible rfl)
      try simp only [Act.put, setIfInBounds_toArray, set_cons_zero, set_cons_succ]
      refine wpAnyH_take (i := 8) (oi := ⟨some 67, .load 32 (.tmp 66), 32, "law.go:185", #[⟨7, .data⟩], none⟩) (v := ?_) rfl (by kernel_rfl) (by kernel_rfl) (by kernel_rfl) (fun _ _ _ h => h) (Or.inl ⟨by kernel_rfl, ?_⟩) (by assumption) ?_
      rotate_left
      · (intro w hSw; (try dsimp only at hSw); obtain ⟨d0, d1, d2, d3, d4, d5, d6, d7, d8, d9, d10, d11⟩ := hSw; go_simp; try with_reducible rfl)
      try simp only [Act.put, setIfInBounds_toArray, set_cons_zero, set_cons_succ]
      refine wpAnyH_take (i := 9) (oi := ⟨some 68, .indexAddr 55 (.tmp 7) (.const (.int IntKind.i64 2)), 0, "law.go:185", #[], none⟩) (v := ?_) rfl (by kernel_rfl) (by kernel_rfl) (by kernel_rfl) (fun _ _ _ h => h) (Or.inl ⟨by kernel_rfl, ?_⟩) (by assumption) ?_
      rotate_left
      · (intro w hSw; (try dsimp only at hSw); obtain ⟨d0, d1, d2, d3, d4, d5, d6, d7, d8, d9, d10, d11⟩ := hSw; go_simp; try with_reducible rfl)
      try simp only [Act.put, setIfInBounds_toArray, set_cons_zero, set_cons_succ]
      refine wpAnyH_take (i := 10) (oi := ⟨some 69, .load 32 (.tmp 68), 32, "law.go:185", #[⟨9, .data⟩], none⟩) (v := ?_) rfl (by kernel_rfl) (by kernel_rfl) (by kernel_rfl) (fun _ _ _ h => h) (Or.inl ⟨by kernel_rfl, ?_⟩) (by assumption) ?_
      rotate_left
      · (intro w hSw; (try dsimp only at hSw); obtain ⟨d0, d1, d2, d3, d4, d5, d6, d7, d8, d9, d10, d11⟩ := hSw; go_simp; try with_reducible rfl)
      try simp only [Act.put, setIfInBounds_toArray, set_cons_zero, set_cons_succ]
      refine wpAnyH_take (i := 12) (oi := ⟨some 71, .load 28 (.tmp 6), 28, "law.go:185", #[], none⟩) (v := ?_) rfl (by kernel_rfl) (by kernel_rfl) (by kernel_rfl) (fun _ _ _ h => h) (Or.inl ⟨by kernel_rfl, ?_⟩) (by assumption) ?_
      rotate_left
      · (intro w hSw; (try dsimp only at hSw); obtain ⟨d0, d1, d2, d3, d4, d5, d6, d7, d8, d9, d10, d11⟩ := hSw; go_simp; try with_reducible rfl)
      try simp only [Act.put, setIfInBounds_toArray, set_cons_zero, set_cons_succ]
      refine wpAnyH_take (i := 13) (oi := ⟨some 72, .indexAddr 55 (.tmp 7) (.const (.int IntKind.i64 0)), 0, "law.go:185", #[], none⟩) (v := ?_) rfl (by kernel_rfl) (by kernel_rfl) (by kernel_rfl) (fun _ _ _ h => h) (Or.inl ⟨by kernel_rfl, ?_⟩) (by assumption) ?_
      rotate_left
      · (intro w hSw; (try dsimp only at hSw); obtain ⟨d0, d1, d2, d3, d4, d5, d6, d7, d8, d9, d10, d11⟩ := hSw; go_simp; try with_reducible rfl)
      try simp only [Act.put, setIfInBounds_toArray, set_cons_zero, set_cons_succ]
      refine wpAnyH_take (i := 14) (oi := ⟨some 73, .load 32 (.tmp 72), 32, "law.go:185", #[⟨13, .data⟩], none⟩) (v := ?_) rfl (by kernel_rfl) (by kernel_rfl) (by kernel_rfl) (fun _ _ _ h => h) (Or.inl ⟨by kernel_rfl, ?_⟩) (by assumption) ?_
      rotate_left
      · (intro w hSw; (try dsimp only at hSw); obtain ⟨d0, d1, d2, d3, d4, d5, d6, d7, d8, d9, d10, d11⟩ := hSw; go_simp; try with_reducible rfl)
      try simp only [Act.put, setIfInBounds_toArray, set_cons_zero, set_cons_succ]
      refine wpAnyH_take (i := 15) (oi := ⟨some 74, .indexAddr 55 (.tmp 7) (.const (.int IntKind.i64 2)), 0, "law.go:185", #[], none⟩) (v := ?_) rfl (by kernel_rfl) (by kernel_rfl) (by kernel_rfl) (fun _ _ _ h => h) (Or.inl ⟨by kernel_rfl, ?_⟩) (by assumption) ?_
      rotate_left
      · (intro w hSw; (try dsimp only at hSw); obtain ⟨d0, d1, d2, d3, d4, d5, d6, d7, d8, d9, d10, d11⟩ := hSw; go_simp; try with_reducible rfl)
      try simp only [Act.put, setIfInBounds_toArray, set_cons_zero, set_cons_succ]
      refine wpAnyH_take (i := 16) (oi := ⟨some 75, .load 32 (.tmp 74), 32, "law.go:185", #[⟨15, .data⟩], none⟩) (v := ?_) rfl (by kernel_rfl) (by kernel_rfl) (by kernel_rfl) (fun _ _ _ h => h) (Or.inl ⟨by kernel_rfl, ?_⟩) (by assumption) ?_
      rotate_left
      · (intro w hSw; (try dsimp only at hSw); obtain ⟨d0, d1, d2, d3, d4, d5, d6, d7, d8, d9, d10, d11⟩ := hSw; go_simp; try with_reducible rfl)
      try simp only [Act.put, setIfInBounds_toArray, set_cons_zero, set_cons_succ]
      refine wpAnyH_ready (rs := [5]) (by kernel_rfl) (by simp) ?_
      refine AllReadyH.cons (o := ⟨some 64, .call { callee := Callee.value (.func 23), args := #[.tmp 59, .tmp 61, .tmp 63], argTypes := #[28, 32, 32] }, 3, "law.go:185", #[⟨0, .data⟩, ⟨2, .data⟩, ⟨4, .data⟩], none⟩) rfl (fun K hK => ?_) AllReadyH.nil
      go_simp
      go_at_call 23; refine (C01.out _ (Ch.of_bel (by repeat (first | exact Bel.rf | with_reducible refine Bel.drwN ?_ _ | with_reducible refine Bel.drw ?_ | with_reducible refine Bel.al ?_ _)))).mono ?_; rintro e y1 ⟨rfl, hb⟩; have H1 : Hid (Bel wr y1) := Bel.tr (by repeat (first | exact Bel.rf | with_reducible refine Bel.drwN ?_ _ | with_reducible refine Bel.drw ?_ | with_reducible refine Bel.al ?_ _)) hb; clear hb
      try go_wp2_with fail
      refine hK.out _ _ ?_ (fun hH1 => ?_)
      · (try dsimp only); exact KS12H.out _ (Ch.of_bel (by repeat (first | exact H3.out | exact H2.out | exact H1.out | exact Bel.rf | with_reducible refine Bel.drwN ?_ _ | with_reducible refine Bel.drw ?_ | with_reducible refine Bel.al ?_ _)))
      clear hK K hH0
      try simp only [Act.put, setIfInBounds_toArray, set_cons_zero, set_cons_succ]
      refine wpAnyH_ready (rs := [11]) (by kernel_rfl) (by simp) ?_
      refine AllReadyH.cons (o := ⟨some 70, .call { callee := Callee.value (.func 23), args := #[.tmp 65, .tmp 67, .tmp 69], argTypes := #[28, 32, 32] }, 3, "law.go:185", #[⟨6, .data⟩, ⟨8, .data⟩, ⟨10, .data⟩, ⟨5, .chain⟩], none⟩) rfl (fun K hK => ?_) AllReadyH.nil
      go_simp
      go_at_call 23; refine (C12.out _ (Ch.of_bel (by repeat (first | exact H1.out | with_reducible refine Bel.drwN ?_ _ | with_reducible refine Bel.drw ?_ | with_reducible refine Bel.al ?_ _)))).mono ?_; rintro e y2 ⟨rfl, hb⟩; have H2 : Hid (Bel wr y2) := Bel.tr (by repeat (first | exact H1.out | with_reducible refine Bel.drwN ?_ _ | with_reducible refine Bel.drw ?_ | with_reducible refine Bel.al ?_ _)) hb; clear hb
      try go_wp2_with fail
      refine hK.out _ _ ?_ (fun hH2 => ?_)
      · (try dsimp only); exact KS12H.out _ (Ch.of_bel (by repeat (first | exact H3.out | exact H2.out | exact H1.out | exact Bel.rf | with_reducible refine Bel.drwN ?_ _ | with_reducible refine Bel.drw ?_ | with_reducible refine Bel.al ?_ _)))
      clear hK K hH1
      try simp only [Act.put, setIfInBounds_toArray, set_cons_zero, set_cons_succ]
      refine wpAnyH_ready (rs := [17]) (by kernel_rfl) (by simp) ?_
      refine AllReadyH.cons (o := ⟨some 76, .call { callee := Callee.value (.func 23), args := #[.tmp 71, .tmp 73, .tmp 75], argTypes := #[28, 32, 32] }, 3, "law.go:185", #[⟨12, .data⟩, ⟨14, .data⟩, ⟨16, .data⟩, ⟨11, .chain⟩], none⟩) rfl (fun K hK => ?_) AllReadyH.nil
      go_simp
      go_at_call 23; refine (C02.out _ (Ch.of_bel (by repeat (first | exact H2.out | with_reducible refine Bel.drwN ?_ _ | with_reducible refine Bel.drw ?_ | with_reducible refine Bel.al ?_ _)))).mono ?_; rintro e y3 ⟨rfl, hb⟩; have H3 : Hid (Bel wr y3) := Bel.tr (by repeat (first | exact H2.out | with_reducible refine Bel.drwN ?_ _ | with_reducible refine Bel.drw ?_ | with_reducible refine Bel.al ?_ _)) hb; clear hb
      try go_wp2_with fail
      refine hK.out _ _ ?_ (fun hH3 => ?_)
      · (try dsimp only); exact KS12H.out _ (Ch.of_bel (by repeat (first | exact H3.out | exact H2.out | exact H1.out | exact Bel.rf | with_reducible refine Bel.drwN ?_ _ | with_reducible refine Bel.drw ?_ | with_reducible refine Bel.al ?_ _)))
      clear hK K hH2
      try simp only [Act.put, setIfInBounds_toArray, set_cons_zero, set_cons_succ]
      refine wpAnyH_take (i := 18) (oi := ⟨some 10, .assign (.tmp 64), 3, "law.go:185", #[⟨5, .data⟩, ⟨17, .chain⟩, ⟨0, .phase⟩, ⟨1, .phase⟩, ⟨2, .phase⟩, ⟨3, .phase⟩, ⟨4, .phase⟩, ⟨5, .phase⟩, ⟨6, .textOnly Departure.lateStores⟩, ⟨7, .textOnly Departure.lateStores⟩, ⟨8, .textOnly Departure.lateStores⟩, ⟨9, .textOnly Departure.lateStores⟩, ⟨10, .textOnly Departure.lateStores⟩, ⟨11, .textOnly Departure.lateStoresUnsure⟩, ⟨12, .textOnly Departure.lateStores⟩, ⟨13, .textOnly Departure.lateStores⟩, ⟨14, .textOnly Departure.lateStores⟩, ⟨15, .textOnly Departure.lateStores⟩, ⟨16, .textOnly Departure.lateStores⟩, ⟨17, .textOnly Departure.lateStoresUnsure⟩], none⟩) (v := ?_) rfl (by kernel_rfl) (by kernel_rfl) (by kernel_rfl) (fun _ _ _ h => h) (Or.inl ⟨by kernel_rfl, ?_⟩) (by assumption) ?_
      rotate_left
      · (intro w hSw; (try dsimp only at hSw); obtain ⟨d0, d1, d2, d3, d4, d5, d6, d7, d8, d9, d10, d11⟩ := hSw; go_simp; try with_reducible rfl)
      try simp only [Act.put, setIfInBounds_toArray, set_cons_zero, set_cons_succ]
      refine wpAnyH_take (i := 19) (oi := ⟨some 11, .assign (.tmp 70), 3, "law.go:185", #[⟨11, .data⟩, ⟨18, .chain⟩, ⟨0, .phase⟩, ⟨1, .phase⟩, ⟨2, .phase⟩, ⟨3, .phase⟩, ⟨4, .phase⟩, ⟨5, .phase⟩, ⟨6, .phase⟩, ⟨7, .phase⟩, ⟨8, .phase⟩, ⟨9, .phase⟩, ⟨10, .phase⟩, ⟨11, .phase⟩, ⟨12, .textOnly Departure.lateStores⟩, ⟨13, .textOnly Departure.lateStores⟩, ⟨14, .textOnly Departure.lateStores⟩, ⟨15, .textOnly Departure.lateStores⟩, ⟨16, .textOnly Departure.lateStores⟩, ⟨17, .textOnly Departure.lateStoresUnsure⟩, ⟨18, .phase⟩], none⟩) (v := ?_) rfl (by kernel_rfl) (by kernel_rfl) (by kernel_rfl) (fun _ _ _ h => h) (Or.inl ⟨by kernel_rfl, ?_⟩) (by assumption) ?_
      rotate_left
      · (intro w hSw; (try dsimp only at hSw); obtain ⟨d0, d1, d2, d3, d4, d5, d6, d7, d8, d9, d10, d11⟩ := hSw; go_simp; try with_reducible rfl)
      try simp only [Act.put, setIfInBounds_toArray, set_cons_zero, set_cons_succ]
      refine wpAnyH_take (i := 20) (oi := ⟨some 12, .assign (.tmp 76), 3, "law.go:185", #[⟨17, .data⟩, ⟨19, .chain⟩, ⟨0, .phase⟩, ⟨1, .phase⟩, ⟨2, .phase⟩, ⟨3, .phase⟩, ⟨4, .phase⟩, ⟨5, .phase⟩, ⟨6, .phase⟩, ⟨7, .phase⟩, ⟨8, .phase⟩, ⟨9, .phase⟩, ⟨10, .phase⟩, ⟨11, .phase⟩, ⟨12, .phase⟩, ⟨13, .phase⟩, ⟨14, .phase⟩, ⟨15, .phase⟩, ⟨16, .phase⟩, ⟨17, .phase⟩, ⟨18, .phase⟩, ⟨19, .phase⟩], none⟩) (v := ?_) rfl (by kernel_rfl) (by kernel_rfl) (by kernel_rfl) (fun _ _ _ h => h) (Or.inl ⟨by kernel_rfl, ?_⟩) (by assumption) ?_
      rotate_left
      · (intro w hSw; (try dsimp only at hSw); obtain ⟨d0, d1, d2, d3, d4, d5, d6, d7, d8, d9, d10, d11⟩ := hSw; go_simp; try with_reducible rfl)
      try simp only [Act.put, setIfInBounds_toArray, set_cons_zero, set_cons_succ]
      refine wpAnyH_done (by kernel_rfl) ?_ _
      refine NoPanic.normal ?_
      go_upto_region 13 with fail
      go_cut [119] (fun s wx => ∃ V, V = wx ∧ s = .bool false ∧ Bel wr wx)
      case first =>
        obtain ⟨r1, r2, r3, r4, r5, r6, _, _⟩ := HRL.out
        obtain ⟨d0, d1, d2, d3, d4, d5, d6, d7, d8, d9, d10, d11⟩ := KS12H.out y3 (Ch.of_bel H3.out)
        have H5h := Lib.hid r5
        have H6h := Lib.hid r6
        clear r5 r6
        rcases r1 with e1 | e1 | e1
        · subst e1
          obtain rfl : d = 1 := by omega
          obtain rfl : sm = false := by simpa using r4
          clear r3 r4
          rcases r2 with e2 | e2 | e2
          · subst e2
            have g1 : c ≤ 0 := H5h.out (by decide) (by decide)
            have g2 : ¬ 0 < c := by omega
            have g3 : decide (c > 0) = false := decide_eq_false g2
            as_aux_lemma =>
              go_wp2_with (first
                | (go_at_call 23; refine (C10.out _ (Ch.of_bel (by repeat (first | exact H3.out | with_reducible refine Bel.drwN ?_ _ | with_reducible refine Bel.drw ?_ | with_reducible refine Bel.al ?_ _)))).mono ?_; rintro e y4 ⟨rfl, hb⟩; have H4 : Hid (Bel wr y4) := Bel.tr (by repeat (first | exact H3.out | with_reducible refine Bel.drwN ?_ _ | with_reducible refine Bel.drw ?_ | with_reducible refine Bel.al ?_ _)) hb; clear hb d0 d1 d2 d3 d4 d5 d6 d7 d8 d9 d10 d11; obtain ⟨d0, d1, d2, d3, d4, d5, d6, d7, d8, d9, d10, d11⟩ := KS12H.out y4 (Ch.of_bel H4.out))
                | (go_at_call 24; refine (SAM.out _ (Ch.of_bel (by repeat (first | exact H4.out | with_reducible refine Bel.drwN ?_ _ | with_reducible refine Bel.drw ?_ | with_reducible refine Bel.al ?_ _)))).mono ?_; rintro e y5 ⟨rfl, hb⟩; have H5 : Hid (Bel wr y5) := Bel.tr (by repeat (first | exact H4.out | with_reducible refine Bel.drwN ?_ _ | with_reducible refine Bel.drw ?_ | with_reducible refine Bel.al ?_ _)) hb; clear hb))
              go_meet
              exact ⟨_, rfl, rfl, (by repeat (first | exact H5.out | with_reducible refine Bel.drwN ?_ _ | with_reducible refine Bel.drw ?_ | with_reducible refine Bel.al ?_ _))⟩
          · subst e2
            have g1 : c ≤ 0 := H5h.out (by decide) (by decide)
            have g2 : ¬ 0 < c := by omega
            have g3 : decide (c > 0) = false := decide_eq_false g2
            as_aux_lemma =>
              go_wp2_with (first
                | (go_at_call 23; refine (C10.out _ (Ch.of_bel (by repeat (first | exact H3.out | with_reducible refine Bel.drwN ?_ _ | with_reducible refine Bel.drw ?_ | with_reducible refine Bel.al ?_ _)))).mono ?_; rintro e y4 ⟨rfl, hb⟩; have H4 : Hid (Bel wr y4) := Bel.tr (by repeat (first | exact H3.out | with_reducible refine Bel.drwN ?_ _ | with_reducible refine Bel.drw ?_ | with_reducible refine Bel.al ?_ _)) hb; clear hb d0 d1 d2 d3 d4 d5 d6 d7 d8 d9 d10 d11; obtain ⟨d0, d1, d2, d3, d4, d5, d6, d7, d8, d9, d10, d11⟩ := KS12H.out y4 (Ch.of_bel H4.out))
                | (go_at_call 24; refine (SAM.out _ (Ch.of_bel (by repeat (first | exact H4.out | with_reducible refine Bel.drwN ?_ _ | with_reducible refine Bel.drw ?_ | with_reducible refine Bel.al ?_ _)))).mono ?_; rintro e y5 ⟨rfl, hb⟩; have H5 : Hid (Bel wr y5) := Bel.tr (by repeat (first | exact H4.out | with_reducible refine Bel.drwN ?_ _ | with_reducible refine Bel.drw ?_ | with_reducible refine Bel.al ?_ _)) hb; clear hb))
              go_meet
              exact ⟨_, rfl, rfl, (by repeat (first | exact H5.out | with_reducible refine Bel.drwN ?_ _ | with_reducible refine Bel.drw ?_ | with_reducible refine Bel.al ?_ _))⟩
          · subst e2
            as_aux_lemma =>
              go_wp2_with (first
                | (go_at_call 23; refine (C10.out _ (Ch.of_bel (by repeat (first | exact H3.out | with_reducible refine Bel.drwN ?_ _ | with_reducible refine Bel.drw ?_ | with_reducible refine Bel.al ?_ _)))).mono ?_; rintro e y4 ⟨rfl, hb⟩; have H4 : Hid (Bel wr y4) := Bel.tr (by repeat (first | exact H3.out | with_reducible refine Bel.drwN ?_ _ | with_reducible refine Bel.drw ?_ | with_reducible refine Bel.al ?_ _)) hb; clear hb d0 d1 d2 d3 d4 d5 d6 d7 d8 d9 d10 d11; obtain ⟨d0, d1, d2, d3, d4, d5, d6, d7, d8, d9, d10, d11⟩ := KS12H.out y4 (Ch.of_bel H4.out))
                | (go_at_call 24; refine (SAM.out _ (Ch.of_bel (by repeat (first | exact H4.out | with_reducible refine Bel.drwN ?_ _ | with_reducible refine Bel.drw ?_ | with_reducible refine Bel.al ?_ _)))).mono ?_; rintro e y5 ⟨rfl, hb⟩; have H5 : Hid (Bel wr y5) := Bel.tr (by repeat (first | exact H4.out | with_reducible refine Bel.drwN ?_ _ | with_reducible refine Bel.drw ?_ | with_reducible refine Bel.al ?_ _)) hb; clear hb))
              go_meet
              exact ⟨_, rfl, rfl, (by repeat (first | exact H5.out | with_reducible refine Bel.drwN ?_ _ | with_reducible refine Bel.drw ?_ | with_reducible refine Bel.al ?_ _))⟩
        · subst e1
          obtain rfl : d = 0 := by omega
          obtain rfl : sm = true := by simpa using r4
          clear r3 r4
          rcases r2 with e2 | e2 | e2
          · subst e2
            have g1 : c ≤ 0 := H5h.out (by decide) (by decide)
            have g2 : ¬ 0 < c := by omega
            have g3 : decide (c > 0) = false := decide_eq_false g2
            as_aux_lemma =>
              go_wp2_with (first
                | (go_at_call 23; refine (C10.out _ (Ch.of_bel (by repeat (first | exact H3.out | with_reducible refine Bel.drwN ?_ _ | with_reducible refine Bel.drw ?_ | with_reducible refine Bel.al ?_ _)))).mono ?_; rintro e y4 ⟨rfl, hb⟩; have H4 : Hid (Bel wr y4) := Bel.tr (by repeat (first | exact H3.out | with_reducible refine Bel.drwN ?_ _ | with_reducible refine Bel.drw ?_ | with_reducible refine Bel.al ?_ _)) hb; clear hb d0 d1 d2 d3 d4 d5 d6 d7 d8 d9 d10 d11; obtain ⟨d0, d1, d2, d3, d4, d5, d6, d7, d8, d9, d10, d11⟩ := KS12H.out y4 (Ch.of_bel H4.out))
                | (go_at_call 24; refine (SAM.out _ (Ch.of_bel (by repeat (first | exact H4.out | with_reducible refine Bel.drwN ?_ _ | with_reducible refine Bel.drw ?_ | with_reducible refine Bel.al ?_ _)))).mono ?_; rintro e y5 ⟨rfl, hb⟩; have H5 : Hid (Bel wr y5) := Bel.tr (by repeat (first | exact H4.out | with_reducible refine Bel.drwN ?_ _ | with_reducible refine Bel.drw ?_ | with_reducible refine Bel.al ?_ _)) hb; clear hb))
              go_meet
              exact ⟨_, rfl, rfl, (by repeat (first | exact H5.out | with_reducible refine Bel.drwN ?_ _ | with_reducible refine Bel.drw ?_ | with_reducible refine Bel.al ?_ _))⟩
          · subst e2
            have g1 : c ≤ 0 := H5h.out (by decide) (by decide)
            have g2 : ¬ 0 < c := by omega
            have g3 : decide (c > 0) = false := decide_eq_false g2
            have k1 : 0 ≤ c := H6h.out (by decide) (by decide)
            have k2 : ¬ c < 0 := by omega
            have k3 : decide (c < 0) = false := decide_eq_false k2
            as_aux_lemma =>
              go_wp2_with (first
                | (go_at_call 23; refine (C10.out _ (Ch.of_bel (by repeat (first | exact H3.out | with_reducible refine Bel.drwN ?_ _ | with_reducible refine Bel.drw ?_ | with_reducible refine Bel.al ?_ _)))).mono ?_; rintro e y4 ⟨rfl, hb⟩; have H4 : Hid (Bel wr y4) := Bel.tr (by repeat (first | exact H3.out | with_reducible refine Bel.drwN ?_ _ | with_reducible refine Bel.drw ?_ | with_reducible refine Bel.al ?_ _)) hb; clear hb d0 d1 d2 d3 d4 d5 d6 d7 d8 d9 d10 d11; obtain ⟨d0, d1, d2, d3, d4, d5, d6, d7, d8, d9, d10, d11⟩ := KS12H.out y4 (Ch.of_bel H4.out))
                | (go_at_call 24; refine (SAM.out _ (Ch.of_bel (by repeat (first | exact H4.out | with_reducible refine Bel.drwN ?_ _ | with_reducible refine Bel.drw ?_ | with_reducible refine Bel.al ?_ _)))).mono ?_; rintro e y5 ⟨rfl, hb⟩; have H5 : Hid (Bel wr y5) := Bel.tr (by repeat (first | exact H4.out | with_reducible refine Bel.drwN ?_ _ | with_reducible refine Bel.drw ?_ | with_reducible refine Bel.al ?_ _)) hb; clear hb))
              go_meet
              exact ⟨_, rfl, rfl, (by repeat (first | exact H5.out | with_reducible refine Bel.drwN ?_ _ | with_reducible refine Bel.drw ?_ | with_reducible refine Bel.al ?_ _))⟩
          · subst e2
            have k1 : 0 ≤ c := H6h.out (by decide) (by decide)
            have k2 : ¬ c < 0 := by omega
            have k3 : decide (c < 0) = false := decide_eq_false k2
            as_aux_lemma =>
              go_wp2_with (first
                | (go_at_call 23; refine (C10.out _ (Ch.of_bel (by repeat (first | exact H3.out | with_reducible refine Bel.drwN ?_ _ | with_reducible refine Bel.drw ?_ | with_reducible refine Bel.al ?_ _)))).mono ?_; rintro e y4 ⟨rfl, hb⟩; have H4 : Hid (Bel wr y4) := Bel.tr (by repeat (first | exact H3.out | with_reducible refine Bel.drwN ?_ _ | with_reducible refine Bel.drw ?_ | with_reducible refine Bel.al ?_ _)) hb; clear hb d0 d1 d2 d3 d4 d5 d6 d7 d8 d9 d10 d11; obtain ⟨d0, d1, d2, d3, d4, d5, d6, d7, d8, d9, d10, d11⟩ := KS12H.out y4 (Ch.of_bel H4.out))
                | (go_at_call 24; refine (SAM.out _ (Ch.of_bel (by repeat (first | exact H4.out | with_reducible refine Bel.drwN ?_ _ | with_reducible refine Bel.drw ?_ | with_reducible refine Bel.al ?_ _)))).mono ?_; rintro e y5 ⟨rfl, hb⟩; have H5 : Hid (Bel wr y5) := Bel.tr (by repeat (first | exact H4.out | with_reducible refine Bel.drwN ?_ _ | with_reducible refine Bel.drw ?_ | with_reducible refine Bel.al ?_ _)) hb; clear hb))
              go_meet
              exact ⟨_, rfl, rfl, (by repeat (first | exact H5.out | with_reducible refine Bel.drwN ?_ _ | with_reducible refine Bel.drw ?_ | with_reducible refine Bel.al ?_ _))⟩
        · subst e1
          obtain rfl : d = -1 := by omega
          obtain rfl : sm = false := by simpa using r4
          clear r3 r4
          rcases r2 with e2 | e2 | e2
          · subst e2
            as_aux_lemma =>
              go_wp2_with (first
                | (go_at_call 23; refine (C10.out _ (Ch.of_bel (by repeat (first | exact H3.out | with_reducible refine Bel.drwN ?_ _ | with_reducible refine Bel.drw ?_ | with_reducible refine Bel.al ?_ _)))).mono ?_; rintro e y4 ⟨rfl, hb⟩; have H4 : Hid (Bel wr y4) := Bel.tr (by repeat (first | exact H3.out | with_reducible refine Bel.drwN ?_ _ | with_reducible refine Bel.drw ?_ | with_reducible refine Bel.al ?_ _)) hb; clear hb d0 d1 d2 d3 d4 d5 d6 d7 d8 d9 d10 d11; obtain ⟨d0, d1, d2, d3, d4, d5, d6, d7, d8, d9, d10, d11⟩ := KS12H.out y4 (Ch.of_bel H4.out))
                | (go_at_call 24; refine (SAM.out _ (Ch.of_bel (by repeat (first | exact H4.out | with_reducible refine Bel.drwN ?_ _ | with_reducible refine Bel.drw ?_ | with_reducible refine Bel.al ?_ _)))).mono ?_; rintro e y5 ⟨rfl, hb⟩; have H5 : Hid (Bel wr y5) := Bel.tr (by repeat (first | exact H4.out | with_reducible refine Bel.drwN ?_ _ | with_reducible refine Bel.drw ?_ | with_reducible refine Bel.al ?_ _)) hb; clear hb))
              go_meet
              exact ⟨_, rfl, rfl, (by repeat (first | exact H5.out | with_reducible refine Bel.drwN ?_ _ | with_reducible refine Bel.drw ?_ | with_reducible refine Bel.al ?_ _))⟩
          · subst e2
            have k1 : 0 ≤ c := H6h.out (by decide) (by decide)
            have k2 : ¬ c < 0 := by omega
            have k3 : decide (c < 0) = false := decide_eq_false k2
            as_aux_lemma =>
              go_wp2_with (first
                | (go_at_call 23; refine (C10.out _ (Ch.of_bel (by repeat (first | exact H3.out | with_reducible refine Bel.drwN ?_ _ | with_reducible refine Bel.drw ?_ | with_reducible refine Bel.al ?_ _)))).mono ?_; rintro e y4 ⟨rfl, hb⟩; have H4 : Hid (Bel wr y4) := Bel.tr (by repeat (first | exact H3.out | with_reducible refine Bel.drwN ?_ _ | with_reducible refine Bel.drw ?_ | with_reducible refine Bel.al ?_ _)) hb; clear hb d0 d1 d2 d3 d4 d5 d6 d7 d8 d9 d10 d11; obtain ⟨d0, d1, d2, d3, d4, d5, d6, d7, d8, d9, d10, d11⟩ := KS12H.out y4 (Ch.of_bel H4.out))
                | (go_at_call 24; refine (SAM.out _ (Ch.of_bel (by repeat (first | exact H4.out | with_reducible refine Bel.drwN ?_ _ | with_reducible refine Bel.drw ?_ | with_reducible refine Bel.al ?_ _)))).mono ?_; rintro e y5 ⟨rfl, hb⟩; have H5 : Hid (Bel wr y5) := Bel.tr (by repeat (first | exact H4.out | with_reducible refine Bel.drwN ?_ _ | with_reducible refine Bel.drw ?_ | with_reducible refine Bel.al ?_ _)) hb; clear hb))
              go_meet
              exact ⟨_, rfl, rfl, (by repeat (first | exact H5.out | with_reducible refine Bel.drwN ?_ _ | with_reducible refine Bel.drw ?_ | with_reducible refine Bel.al ?_ _))⟩
          · subst e2
            have k1 : 0 ≤ c := H6h.out (by decide) (by decide)
            have k2 : ¬ c < 0 := by omega
            have k3 : decide (c < 0) = false := decide_eq_false k2
            as_aux_lemma =>
              go_wp2_with (first
                | (go_at_call 23; refine (C10.out _ (Ch.of_bel (by repeat (first | exact H3.out | with_reducible refine Bel.drwN ?_ _ | with_reducible refine Bel.drw ?_ | with_reducible refine Bel.al ?_ _)))).mono ?_; rintro e y4 ⟨rfl, hb⟩; have H4 : Hid (Bel wr y4) := Bel.tr (by repeat (first | exact H3.out | with_reducible refine Bel.drwN ?_ _ | with_reducible refine Bel.drw ?_ | with_reducible refine Bel.al ?_ _)) hb; clear hb d0 d1 d2 d3 d4 d5 d6 d7 d8 d9 d10 d11; obtain ⟨d0, d1, d2, d3, d4, d5, d6, d7, d8, d9, d10, d11⟩ := KS12H.out y4 (Ch.of_bel H4.out))
                | (go_at_call 24; refine (SAM.out _ (Ch.of_bel (by repeat (first | exact H4.out | with_reducible refine Bel.drwN ?_ _ | with_reducible refine Bel.drw ?_ | with_reducible refine Bel.al ?_ _)))).mono ?_; rintro e y5 ⟨rfl, hb⟩; have H5 : Hid (Bel wr y5) := Bel.tr (by repeat (first | exact H4.out | with_reducible refine Bel.drwN ?_ _ | with_reducible refine Bel.drw ?_ | with_reducible refine Bel.al ?_ _)) hb; clear hb))
              go_meet
              exact ⟨_, rfl, rfl, (by repeat (first | exact H5.out | with_reducible refine Bel.drwN ?_ _ | with_reducible refine Bel.drw ?_ | with_reducible refine Bel.al ?_ _))⟩
      case rest =>
        obtain ⟨wx, hwx, rfl, hbx⟩ := hcut
        subst hwx
        have HBX := Lib.hid hbx
        obtain ⟨d0, d1, d2, d3, d4, d5, d6, d7, d8, d9, d10, d11⟩ := KS12H.out wx (Ch.of_bel hbx)
        have HSH := Lib.hid HRL.out.2.2.2.2.2.2
        clear hbx
        rcases Int.lt_or_le 0 a with ga | ga
        · have ga1 : decide (a > 0) = true := decide_eq_true ga
          go_wp2_with (go_at_call 19; refine (AW.out _).mono ?_; rintro e v9 ⟨rfl, h9⟩; have HB9 : Hid (Bel wx v9) := Bel.tr (by repeat (first | exact Bel.rf | with_reducible refine Bel.drwN ?_ _ | with_reducible refine Bel.drw ?_ | with_reducible refine Bel.al ?_ _)) h9; clear h9)
          go_ret
          exact ⟨rfl, ((HWW.out wx (Ch.of_bel HBX.out)).tr HB9.out).bl⟩
        · have ga0 : ¬ 0 < a := by omega
          have ga1 : decide (a > 0) = false := decide_eq_false ga0
          rcases Int.lt_or_le 0 b' with gb | gb
          · have gb1 : decide (b' > 0) = true := decide_eq_true gb
            go_wp2_with (go_at_call 19; refine (AW.out _).mono ?_; rintro e v9 ⟨rfl, h9⟩; have HB9 : Hid (Bel wx v9) := Bel.tr (by repeat (first | exact Bel.rf | with_reducible refine Bel.drwN ?_ _ | with_reducible refine Bel.drw ?_ | with_reducible refine Bel.al ?_ _)) h9; clear h9)
            go_ret
            exact ⟨rfl, ((HWW.out wx (Ch.of_bel HBX.out)).tr HB9.out).bl⟩
          · have gb0 : ¬ 0 < b' := by omega
            have gb1 : decide (b' > 0) = false := decide_eq_false gb0
            have HLE : Hid (shf n F0 ≤ shf n F1 ∧ shf n F1 ≤ shf n F2) := ⟨HSH.out.1 ga, HSH.out.2 gb⟩
            have wa : IntKind.i64.wrap a1 = a1 := IntWalk.i64_in _ (by have := HA1.out; omega)
            obtain ⟨kq, hK, hK4⟩ : ∃ kq : Nat, a1.tmod 5 = (kq : Int) ∧ kq ≤ 4 := tmod_five a1 HA1.out.1
            have HK4 := Lib.hid hK4
            clear hK4
            go_wp2_with fail
            go_at_call 21
            refine (n_any g (n : Int) ni1 (by omega) _ ((HOW.out.bel HBX.out).bel (by repeat (first | exact Bel.rf | with_reducible refine Bel.drwN ?_ _ | with_reducible refine Bel.drw ?_ | with_reducible refine Bel.al ?_ _)))).mono ?_
            rintro e vn ⟨mo', rfl, mo0, mo1, hon, hcn⟩
            obtain ⟨mo, rfl⟩ := Int.eq_ofNat_of_zero_le mo0
            have HMO : Hid (mo < n) := (by omega : _ < _)
            have HON := Lib.hid hon
            have HCN : Hid (Ch g wr vn) := (Ch.of_bel HBX.out).tr (Ch.tr (by repeat (first | exact Ch.rf | with_reducible refine Ch.drwN ?_ _ | with_reducible refine Ch.drw ?_ | with_reducible refine Ch.al ?_ _)) hcn)
            clear d0 d1 d2 d3 d4 d5 d6 d7 d8 d9 d10 d11 ga ga0 ga1 gb gb0 gb1 hK mo0 mo1 hon hcn wa
            obtain ⟨_, _, _, _, _, _, d6, _⟩ := KS12H.out vn HCN.out
            have q6 := fun o => (Bel.rf.al o).kp d6
            obtain ⟨sad, e', _, _⟩ := (HZ0.out vn HCN.out).1.2 HN1.out
            subst e'
            have HGN : Hid (g < vn.heap.size) := HON.out.lt
            have HN0 : Hid (Wq g (vn.heap.size + 1) vn (vn.alloc (.cells #[.slice none 0 0, .slice none 0 0] 32)) (.slice none 0 0) (.slice none 0 0) 0 0 (nS F0 kq mo 0) (nB kq mo 0)) := ⟨World.ownsRow_nil _ _ _ _, World.ownsRow_nil _ _ _ _, fun b e => (by cases e), HON.out.bel (Bel.rf.al _), Ch.rf.al _, (by simp), Nat.lt_succ_of_lt HON.out.lt, Nat.le_succ _⟩
            have HNK : Hid (Bk (vn.alloc (.cells #[.slice none 0 0, .slice none 0 0] 32)) vn.heap.size 32 #[.slice none 0 0, .slice none 0 0]) := Bk.nw _ _ _
            go_wp2_with fail
            go_loopw [139] (fun s wi => ∃ (p : Nat) (u v : Value) (V : World), V = wi ∧ p ≤ n ∧ s = .int .i64 (p : Int) ∧ Wq g (vn.heap.size + 1) vn wi u v p p (nS F0 kq mo p) (nB kq mo p) ∧ Bk wi vn.heap.size 32 #[u, v]) (fun s _ => n - (intOf s).toNat)
            case atStart => exact ⟨0, _, _, _, rfl, by omega, by go_num, HN0.out.up (by repeat (first | exact Bel.rf | with_reducible refine Bel.drwN ?_ _ | with_reducible refine Bel.drw ?_ | with_reducible refine Bel.al ?_ _)), (by repeat (first | exact HNK.out | with_reducible refine Bk.drwN ?_ _ | with_reducible refine Bk.drw ?_ | with_reducible refine Bk.al ?_ _))⟩
            case round =>
              obtain ⟨p, u, v, wi, hwi, hp, rfl, hwq, hnk⟩ := hrel
              subst hwi
              have HQ6 : Hid (Wq g (vn.heap.size + 1) vn wi u v p p (nS F0 kq mo p) (nB kq mo p) ∧ Bk wi vn.heap.size 32 #[u, v]) := ⟨hwq, hnk⟩
              clear hwq hnk d6 q6
              rcases Nat.lt_or_ge p n with plt | pge
              · have pi : (p : Int) < (n : Int) := by omega
                have p0 : (0 : Int) ≤ (p : Int) := by omega
                obtain ⟨x, hx⟩ : ∃ x, F0.getD p 0 = x := ⟨_, rfl⟩
                have hxb := full_in HVV.out.1 p plt
                rw [hx] at hxb
                obtain ⟨x0, x1⟩ := hxb
                have KSN : Hid (∀ W, Ch g vn W → Bk W vn.heap.size 32 #[u, v] → (fun W : World => W.cell? ⟨vn.heap.size, 0, none⟩ = some u ∧ W.cell? ⟨vn.heap.size, 1, none⟩ = some v ∧ W.cell? ⟨v2.heap.size + 1, 0, none⟩ = some (.slice (some sad) n sc) ∧ W.cell? (sad.add p) = some (.int .i64 x)) W) := fun W hc h => by
                  have u0 := h.cell 0
                  have u1 := h.cell 1
                  simp only [getElem?_toArray, getElem?_cons_zero, getElem?_cons_succ] at u0 u1
                  obtain ⟨_, _, _, _, _, _, u2, _⟩ := KS12H.out W (HCN.out.tr hc)
                  obtain ⟨ad', e', _, hd⟩ := (HZ0.out W (HCN.out.tr hc)).1.2 HN1.out
                  cases e'
                  have u3 := hd p plt
                  rw [hx] at u3
                  exact ⟨u0, u1, u2, u3⟩
                have HBU : Hid (∀ r, u.ownBlock = some r → r < wi.heap.size) := fun r e => (HQ6.out.1.ou.lt r e).2
                have HI1 : Hid (p + 1 ≤ 1000000) := (by have := HN8.out; omega : _ ≤ _)
                have HSN : Hid (∀ y : Nat, nb kq mo p = y → nS F0 kq mo (p + 1) = nS F0 kq mo p ++ [x / 2 ^ (4 - y)] ∧ nB kq mo (p + 1) = nB kq mo p ++ [(y : Int)]) := fun y hy => by
                  rw [← hy, ← hx]; exact ⟨nS_succ _ _ _ _, nB_succ _ _ _⟩
                obtain ⟨S, hS⟩ : ∃ S, nS F0 kq mo p = S := ⟨_, rfl⟩
                obtain ⟨B, hB⟩ : ∃ S, nB kq mo p = S := ⟨_, rfl⟩
                rw [hS, hB] at HQ6 HSN
                clear hx hS hB
                rcases Nat.lt_or_ge p mo with pm | pm
                · rcases Nat.lt_or_ge kq 4 with k4 | k4
                  · have pl : (p : Int) < (mo : Int) := by omega
                    have kl : (kq : Int) < 4 := by omega
                    have HYN : Hid (nb kq mo p = (kq + 1)) := by show _ = _; unfold nb; simp [pm, k4]
                    have wsb : IntKind.i64.wrap (4 - ((kq : Int) + 1)) = ((4 - (kq + 1) : Nat) : Int) := by rw [IntWalk.i64_in _ (by have := HK4.out; omega)]; have := HK4.out; omega
                    as_aux_lemma =>
                      go_upto_region 26 with fail
                      refine wp_region_noPanic ?_
                      refine Rb.wp_region_till (S := fun W : World => W.cell? ⟨vn.heap.size, 0, none⟩ = some u ∧ W.cell? ⟨vn.heap.size, 1, none⟩ = some v ∧ W.cell? ⟨v2.heap.size + 1, 0, none⟩ = some (.slice (some sad) n sc) ∧ W.cell? (sad.add p) = some (.int .i64 x)) 19 (by kernel_rfl) ?_ (fun hH0 => ?_)
                      · (try dsimp only); exact KSN.out _ (HQ6.out.1.ch.tr (Ch.of_bel (by repeat (first | exact Bel.rf | with_reducible refine Bel.drwN ?_ _ | with_reducible refine Bel.drw ?_ | with_reducible refine Bel.al ?_ _)))) (HQ6.out.2.bel (by repeat (first | exact Bel.rf | with_reducible refine Bel.drwN ?_ _ | with_reducible refine Bel.drw ?_ | with_reducible refine Bel.al ?_ _)))
                      refine Rb.till_take (i := 0) (oi := ⟨some 152, .fieldAddr 32 (.tmp 15) 0, 0, "law.go:201", #[], none⟩) (v := ?_) rfl (by kernel_rfl) (by kernel_rfl) (by kernel_rfl) (fun _ _ _ h => h) (by decide) opN rfl (by kernel_rfl) (by kernel_rfl) (Or.inl ⟨by kernel_rfl, ?_⟩) (by assumption) ?_
                      rotate_left
                      · (intro w hSw; (try dsimp only at hSw); obtain ⟨d1, d2, d3, d4⟩ := hSw; go_simp; try with_reducible rfl)
                      try simp only [Act.put, setIfInBounds_toArray, set_cons_zero, set_cons_succ]
                      refine Rb.till_take (i := 1) (oi := ⟨some 153, .load 22 (.tmp 152), 22, "law.go:201", #[⟨0, .data⟩], none⟩) (v := ?_) rfl (by kernel_rfl) (by kernel_rfl) (by kernel_rfl) (fun _ _ _ h => h) (by decide) opN rfl (by kernel_rfl) (by kernel_rfl) (Or.inl ⟨by kernel_rfl, ?_⟩) (by assumption) ?_
                      rotate_left
                      · (intro w hSw; (try dsimp only at hSw); obtain ⟨d1, d2, d3, d4⟩ := hSw; go_simp; try with_reducible rfl)
                      try simp only [Act.put, setIfInBounds_toArray, set_cons_zero, set_cons_succ]
                      refine Rb.till_take (i := 2) (oi := ⟨some 154, .indexAddr 55 (.tmp 7) (.const (.int IntKind.i64 0)), 0, "law.go:201", #[], none⟩) (v := ?_) rfl (by kernel_rfl) (by kernel_rfl) (by kernel_rfl) (fun _ _ _ h => h) (by decide) opN rfl (by kernel_rfl) (by kernel_rfl) (Or.inl ⟨by kernel_rfl, ?_⟩) (by assumption) ?_
                      rotate_left
                      · (intro w hSw; (try dsimp only at hSw); obtain ⟨d1, d2, d3, d4⟩ := hSw; go_simp; try with_reducible rfl)
                      try simp only [Act.put, setIfInBounds_toArray, set_cons_zero, set_cons_succ]
                      refine Rb.till_take (i := 3) (oi := ⟨some 155, .fieldAddr 32 (.tmp 154) 0, 0, "law.go:201", #[⟨2, .data⟩], none⟩) (v := ?_) rfl (by kernel_rfl) (by kernel_rfl) (by kernel_rfl) (fun _ _ _ h => h) (by decide) opN rfl (by kernel_rfl) (by kernel_rfl) (Or.inl ⟨by kernel_rfl, ?_⟩) (by assumption) ?_
                      rotate_left
                      · (intro w hSw; (try dsimp only at hSw); obtain ⟨d1, d2, d3, d4⟩ := hSw; go_simp; try with_reducible rfl)
                      try simp only [Act.put, setIfInBounds_toArray, set_cons_zero, set_cons_succ]
                      refine Rb.till_take (i := 4) (oi := ⟨some 156, .load 22 (.tmp 155), 22, "law.go:201", #[⟨3, .data⟩], none⟩) (v := ?_) rfl (by kernel_rfl) (by kernel_rfl) (by kernel_rfl) (fun _ _ _ h => h) (by decide) opN rfl (by kernel_rfl) (by kernel_rfl) (Or.inl ⟨by kernel_rfl, ?_⟩) (by assumption) ?_
                      rotate_left
                      · (intro w hSw; (try dsimp only at hSw); obtain ⟨d1, d2, d3, d4⟩ := hSw; go_simp; try with_reducible rfl)
                      try simp only [Act.put, setIfInBounds_toArray, set_cons_zero, set_cons_succ]
                      refine Rb.till_take (i := 5) (oi := ⟨some 157, .move (.tmp 16), 3, "law.go:201", #[], none⟩) (v := ?_) rfl (by kernel_rfl) (by kernel_rfl) (by kernel_rfl) (fun _ _ _ h => h) (by decide) opN rfl (by kernel_rfl) (by kernel_rfl) (Or.inl ⟨by kernel_rfl, ?_⟩) (by assumption) ?_
                      rotate_left
                      · (intro w hSw; (try dsimp only at hSw); obtain ⟨d1, d2, d3, d4⟩ := hSw; go_simp; try with_reducible rfl)
                      try simp only [Act.put, setIfInBounds_toArray, set_cons_zero, set_cons_succ]
                      refine Rb.till_take (i := 6) (oi := ⟨some 158, .indexAddr 22 (.tmp 156) (.tmp 157), 0, "law.go:201", #[⟨4, .data⟩, ⟨5, .data⟩], none⟩) (v := ?_) rfl (by kernel_rfl) (by kernel_rfl) (by kernel_rfl) (fun _ _ _ h => h) (by decide) opN rfl (by kernel_rfl) (by kernel_rfl) (Or.inl ⟨by kernel_rfl, ?_⟩) (by assumption) ?_
                      rotate_left
                      · (intro w hSw; (try dsimp only at hSw); obtain ⟨d1, d2, d3, d4⟩ := hSw; go_simp; try with_reducible rfl)
                      try simp only [Act.put, setIfInBounds_toArray, set_cons_zero, set_cons_succ]
                      refine Rb.till_take (i := 7) (oi := ⟨some 159, .load 3 (.tmp 158), 3, "law.go:201", #[⟨6, .data⟩], none⟩) (v := ?_) rfl (by kernel_rfl) (by kernel_rfl) (by kernel_rfl) (fun _ _ _ h => h) (by decide) opN rfl (by kernel_rfl) (by kernel_rfl) (Or.inl ⟨by kernel_rfl, ?_⟩) (by assumption) ?_
                      rotate_left
                      · (intro w hSw; (try dsimp only at hSw); obtain ⟨d1, d2, d3, d4⟩ := hSw; go_simp; try with_reducible rfl)
                      try simp only [Act.put, setIfInBounds_toArray, set_cons_zero, set_cons_succ]
                      refine Rb.till_take (i := 8) (oi := ⟨some 160, .move (.tmp 17), 3, "law.go:201", #[], none⟩) (v := ?_) rfl (by kernel_rfl) (by kernel_rfl) (by kernel_rfl) (fun _ _ _ h => h) (by decide) opN rfl (by kernel_rfl) (by kernel_rfl) (Or.inl ⟨by kernel_rfl, ?_⟩) (by assumption) ?_
                      rotate_left
                      · (intro w hSw; (try dsimp only at hSw); obtain ⟨d1, d2, d3, d4⟩ := hSw; go_simp; try with_reducible rfl)
                      try simp only [Act.put, setIfInBounds_toArray, set_cons_zero, set_cons_succ]
                      refine Rb.till_take (i := 9) (oi := ⟨some 161, .binOp BinOp.sub 3 (.const (.int IntKind.i64 4)) (.tmp 160) 3, 3, "law.go:201", #[⟨8, .data⟩], none⟩) (v := ?_) rfl (by kernel_rfl) (by kernel_rfl) (by kernel_rfl) (fun _ _ _ h => h) (by decide) opN rfl (by kernel_rfl) (by kernel_rfl) (Or.inl ⟨by kernel_rfl, ?_⟩) (by assumption) ?_
                      rotate_left
                      · (intro w hSw; (try dsimp only at hSw); obtain ⟨d1, d2, d3, d4⟩ := hSw; go_simp; try with_reducible rfl)
                      try simp only [Act.put, setIfInBounds_toArray, set_cons_zero, set_cons_succ]
                      refine Rb.till_take (i := 10) (oi := ⟨some 162, .binOp BinOp.shr 3 (.tmp 159) (.tmp 161) 3, 3, "law.go:201", #[⟨7, .data⟩, ⟨9, .data⟩], none⟩) (v := ?_) rfl (by kernel_rfl) (by kernel_rfl) (by kernel_rfl) (fun _ _ _ h => h) (by decide) opN rfl (by kernel_rfl) (by kernel_rfl) (Or.inl ⟨by kernel_rfl, ?_⟩) (by assumption) ?_
                      rotate_left
                      · (intro w hSw; (try dsimp only at hSw); obtain ⟨d1, d2, d3, d4⟩ := hSw; go_simp; try with_reducible rfl)
                      try simp only [Act.put, setIfInBounds_toArray, set_cons_zero, set_cons_succ]
                      refine Rb.till_take (i := 13) (oi := ⟨some 165, .fieldAddr 32 (.tmp 15) 1, 0, "law.go:201", #[], none⟩) (v := ?_) rfl (by kernel_rfl) (by kernel_rfl) (by kernel_rfl) (fun _ _ _ h => h) (by decide) opN rfl (by kernel_rfl) (by kernel_rfl) (Or.inl ⟨by kernel_rfl, ?_⟩) (by assumption) ?_
                      rotate_left
                      · (intro w hSw; (try dsimp only at hSw); obtain ⟨d1, d2, d3, d4⟩ := hSw; go_simp; try with_reducible rfl)
                      try simp only [Act.put, setIfInBounds_toArray, set_cons_zero, set_cons_succ]
                      refine Rb.till_take (i := 14) (oi := ⟨some 166, .load 22 (.tmp 165), 22, "law.go:201", #[⟨13, .data⟩], none⟩) (v := ?_) rfl (by kernel_rfl) (by kernel_rfl) (by kernel_rfl) (fun _ _ _ h => h) (by decide) opN rfl (by kernel_rfl) (by kernel_rfl) (Or.inl ⟨by kernel_rfl, ?_⟩) (by assumption) ?_
                      rotate_left
                      · (intro w hSw; (try dsimp only at hSw); obtain ⟨d1, d2, d3, d4⟩ := hSw; go_simp; try with_reducible rfl)
                      try simp only [Act.put, setIfInBounds_toArray, set_cons_zero, set_cons_succ]
                      refine Rb.till_free (i := 15) (oi := ⟨some 167, .move (.tmp 17), 3, "law.go:201", #[], none⟩) (v := ?_) rfl (by kernel_rfl) (by kernel_rfl) (by kernel_rfl) (fun _ _ _ h => h) (by decide) (Or.inl ⟨by kernel_rfl, ?_⟩) (fun _ => by assumption) ?_
                      rotate_left
                      · (intro w hSw; clear hSw; go_simp; try with_reducible rfl)
                      try simp only [Act.put, setIfInBounds_toArray, set_cons_zero, set_cons_succ]
                      refine Rb.till_ready (rs := [11, 16]) (by kernel_rfl) (by simp) ?_
                      refine Rb.AllT.cons (o := ⟨some 163, .buildSlice 22 1 #[(0, .tmp 162)], 22, "law.go:201", #[⟨10, .data⟩], none⟩) rfl (fun K hK => ?_) (Rb.AllT.cons (o := ⟨some 168, .buildSlice 22 1 #[(0, .tmp 167)], 22, "law.go:201", #[⟨15, .data⟩], none⟩) rfl (fun K hK => ?_) (Rb.AllT.nil))
                      · go_simp
                        try go_wp2_with fail
                        refine hK.out _ _ ?_ (fun hH1 => ?_)
                        · (try dsimp only); exact KSN.out _ (HQ6.out.1.ch.tr (Ch.of_bel (by repeat (first | exact Bel.rf | with_reducible refine Bel.drwN ?_ _ | with_reducible refine Bel.drw ?_ | with_reducible refine Bel.al ?_ _)))) (HQ6.out.2.bel (by repeat (first | exact Bel.rf | with_reducible refine Bel.drwN ?_ _ | with_reducible refine Bel.drw ?_ | with_reducible refine Bel.al ?_ _)))
                        clear hK K hH0
                        try simp only [Act.put, setIfInBounds_toArray, set_cons_zero, set_cons_succ]
                        refine Rb.till_ready (rs := [12, 16]) (by kernel_rfl) (by simp) ?_
                        refine Rb.AllT.cons (o := ⟨some 164, .call { callee := Callee.builtin Builtin.append, args := #[.tmp 153, .tmp 163], argTypes := #[22, 22] }, 22, "law.go:201", #[⟨1, .data⟩, ⟨11, .data⟩], none⟩) rfl (fun K hK => ?_) (Rb.AllT.cons (o := ⟨some 168, .buildSlice 22 1 #[(0, .tmp 167)], 22, "law.go:201", #[⟨15, .data⟩], none⟩) rfl (fun K hK => ?_) (Rb.AllT.nil))
                        · refine step_app _ rfl (.tmp 153) (.tmp 163) rfl (vn.heap.size + 1) u p S rfl (own_bel HQ6.out.1.ou (by repeat (first | exact Bel.rf | with_reducible refine Bel.drwN ?_ _ | with_reducible refine Bel.drw ?_ | with_reducible refine Bel.al ?_ _))) ⟨wi.heap.size, 0, none⟩ 1 1 [x / 2 ^ (3 - kq)] rfl (zi_bk (L := [x / 2 ^ (3 - kq)]) ((by repeat (first | (refine Bk.nq _ _ _ ?_; simp; done) | with_reducible refine Bk.drwN ?_ _ | with_reducible refine Bk.drw ?_ | with_reducible refine Bk.al ?_ _)) : Bk _ wi.heap.size 3 (zs [x / 2 ^ (3 - kq)]).toArray) 1 rfl) HI1.out (by have := HQ6.out.1.sz; simp; omega) ?_; intro v7 x7 h7 hg7 ha7; obtain ⟨A7, c7, hv7, _⟩ := own_any h7; subst hv7; have HQ7 : Hid (Wq g (vn.heap.size + 1) vn x7 (.slice A7 (p + 1) c7) v (p + 1) p (S ++ [x / 2 ^ (3 - kq)]) B ∧ Bk x7 vn.heap.size 32 #[u, v]) := ⟨(HQ6.out.1.up (by repeat (first | exact Bel.rf | with_reducible refine Bel.drwN ?_ _ | with_reducible refine Bel.drw ?_ | with_reducible refine Bel.al ?_ _))).ax h7 hg7 ha7, bk_grw (HQ6.out.2.bel (by repeat (first | exact Bel.rf | with_reducible refine Bel.drwN ?_ _ | with_reducible refine Bel.drw ?_ | with_reducible refine Bel.al ?_ _))) hg7 (fun e => by have := (HQ6.out.1.ou.lt _ e).1; omega)⟩; clear h7 hg7 ha7
                          try go_wp2_with fail
                          refine hK.out _ _ ?_ (fun hH2 => ?_)
                          · (try dsimp only); exact KSN.out _ (HQ7.out.1.ch.tr (Ch.of_bel (by repeat (first | exact Bel.rf | with_reducible refine Bel.drwN ?_ _ | with_reducible refine Bel.drw ?_ | with_reducible refine Bel.al ?_ _)))) (HQ7.out.2.bel (by repeat (first | exact Bel.rf | with_reducible refine Bel.drwN ?_ _ | with_reducible refine Bel.drw ?_ | with_reducible refine Bel.al ?_ _)))
                          clear hK K hH1
                          try simp only [Act.put, setIfInBounds_toArray, set_cons_zero, set_cons_succ]
                          refine Rb.till_take (i := 18) (oi := ⟨some 170, .fieldAddr 32 (.tmp 15) 0, 0, "law.go:201", #[⟨0, .phase⟩, ⟨1, .phase⟩, ⟨2, .phase⟩, ⟨3, .phase⟩, ⟨4, .phase⟩, ⟨5, .phase⟩, ⟨6, .phase⟩, ⟨7, .phase⟩, ⟨8, .phase⟩, ⟨9, .phase⟩, ⟨10, .phase⟩, ⟨11, .phase⟩, ⟨12, .phase⟩, ⟨13, .phase⟩, ⟨14, .phase⟩, ⟨15, .textOnly Departure.lateStores⟩, ⟨16, .textOnly Departure.lateStores⟩, ⟨17, .textOnly Departure.lateStoresUnsure⟩], none⟩) (v := ?_) rfl (by kernel_rfl) (by kernel_rfl) (by kernel_rfl) (fun _ _ _ h => h) (by decide) opN rfl (by kernel_rfl) (by kernel_rfl) (Or.inl ⟨by kernel_rfl, ?_⟩) (by assumption) ?_
                          rotate_left
                          · (intro w hSw; (try dsimp only at hSw); obtain ⟨d1, d2, d3, d4⟩ := hSw; go_simp; try with_reducible rfl)
                          try simp only [Act.put, setIfInBounds_toArray, set_cons_zero, set_cons_succ]
                          refine Rb.till_ready (rs := [16]) (by kernel_rfl) (by simp) ?_
                          refine Rb.AllT.cons (o := ⟨some 168, .buildSlice 22 1 #[(0, .tmp 167)], 22, "law.go:201", #[⟨15, .data⟩], none⟩) rfl (fun K hK => ?_) (Rb.AllT.nil)
                          · go_simp
                            try go_wp2_with fail
                            refine hK.out _ _ ?_ (fun hH3 => ?_)
                            · (try dsimp only); exact KSN.out _ (HQ7.out.1.ch.tr (Ch.of_bel (by repeat (first | exact Bel.rf | with_reducible refine Bel.drwN ?_ _ | with_reducible refine Bel.drw ?_ | with_reducible refine Bel.al ?_ _)))) (HQ7.out.2.bel (by repeat (first | exact Bel.rf | with_reducible refine Bel.drwN ?_ _ | with_reducible refine Bel.drw ?_ | with_reducible refine Bel.al ?_ _)))
                            clear hK K hH2
                            try simp only [Act.put, setIfInBounds_toArray, set_cons_zero, set_cons_succ]
                            refine Rb.till_ready (rs := [17]) (by kernel_rfl) (by simp) ?_
                            refine Rb.AllT.cons (o := ⟨some 169, .call { callee := Callee.builtin Builtin.append, args := #[.tmp 166, .tmp 168], argTypes := #[22, 22] }, 22, "law.go:201", #[⟨14, .data⟩, ⟨16, .data⟩, ⟨12, .chain⟩], none⟩) rfl (fun K hK => ?_) (Rb.AllT.nil)
                            · refine step_app _ rfl (.tmp 166) (.tmp 168) rfl (vn.heap.size + 1) v p B rfl (own_bel HQ7.out.1.ov (by repeat (first | exact Bel.rf | with_reducible refine Bel.drwN ?_ _ | with_reducible refine Bel.drw ?_ | with_reducible refine Bel.al ?_ _))) ⟨x7.heap.size, 0, none⟩ 1 1 [((kq : Int) + 1)] rfl (zi_bk (L := [((kq : Int) + 1)]) ((by repeat (first | (refine Bk.nq _ _ _ ?_; simp; done) | with_reducible refine Bk.drwN ?_ _ | with_reducible refine Bk.drw ?_ | with_reducible refine Bk.al ?_ _)) : Bk _ x7.heap.size 3 (zs [((kq : Int) + 1)]).toArray) 1 rfl) HI1.out (by have := HQ7.out.1.sz; simp; omega) ?_; intro v12 x12 h12 hg12 ha12; obtain ⟨A12, c12, hv12, _⟩ := own_any h12; subst hv12; have HQ12 : Hid (Wq g (vn.heap.size + 1) vn x12 (.slice A7 (p + 1) c7) (.slice A12 (p + 1) c12) (p + 1) (p + 1) (S ++ [x / 2 ^ (3 - kq)]) (B ++ [((kq : Int) + 1)]) ∧ Bk x12 vn.heap.size 32 #[u, v]) := ⟨((HQ7.out.1.up (by repeat (first | exact Bel.rf | with_reducible refine Bel.drwN ?_ _ | with_reducible refine Bel.drw ?_ | with_reducible refine Bel.al ?_ _))).sx.ax h12 hg12 ha12).sx, bk_grw (HQ7.out.2.bel (by repeat (first | exact Bel.rf | with_reducible refine Bel.drwN ?_ _ | with_reducible refine Bel.drw ?_ | with_reducible refine Bel.al ?_ _))) hg12 (fun e => by have := (HQ7.out.1.ov.lt _ e).1; omega)⟩; have y0 := HQ12.out.2.cell 0; have y1 := HQ12.out.2.cell 1; have z0 := HQ12.out.2.fr 0; have z1 := HQ12.out.2.fr 1; simp only [getElem?_toArray, getElem?_cons_zero, getElem?_cons_succ] at y0 y1; clear h12 hg12 ha12
                              try go_wp2_with fail
                              refine hK.out _ _ ?_ (fun hH4 => ?_)
                              · (try dsimp only); exact KSN.out _ (HQ12.out.1.ch.tr (Ch.of_bel (by repeat (first | exact Bel.rf | with_reducible refine Bel.drwN ?_ _ | with_reducible refine Bel.drw ?_ | with_reducible refine Bel.al ?_ _)))) (HQ12.out.2.bel (by repeat (first | exact Bel.rf | with_reducible refine Bel.drwN ?_ _ | with_reducible refine Bel.drw ?_ | with_reducible refine Bel.al ?_ _)))
                              clear hK K hH3
                              try simp only [Act.put, setIfInBounds_toArray, set_cons_zero, set_cons_succ]
                              refine Rb.till_ready (rs := [19]) (by kernel_rfl) (by simp) ?_
                              refine Rb.AllT.past (o := ⟨none, .store 22 (.tmp 170) (.tmp 164), 0, "law.go:201", #[⟨18, .data⟩, ⟨12, .data⟩, ⟨17, .chain⟩, ⟨0, .phase⟩, ⟨1, .phase⟩, ⟨2, .phase⟩, ⟨3, .phase⟩, ⟨4, .phase⟩, ⟨5, .phase⟩, ⟨6, .phase⟩, ⟨7, .phase⟩, ⟨8, .phase⟩, ⟨9, .phase⟩, ⟨10, .phase⟩, ⟨11, .phase⟩, ⟨12, .phase⟩, ⟨13, .phase⟩, ⟨14, .phase⟩, ⟨15, .textOnly Departure.lateStores⟩, ⟨16, .textOnly Departure.lateStores⟩, ⟨17, .textOnly Departure.lateStoresUnsure⟩], none⟩) rfl (by kernel_rfl) (fun K hK => ?_) (Rb.AllT.nil)
                              · go_simp
                                try go_wp2_with fail
                                refine hK.out _ _ trivial (fun hH5 => ?_)
                                clear hK K hH4
                                try simp only [Act.put, setIfInBounds_toArray, set_cons_zero, set_cons_succ]
                                refine Rb.till_free (i := 20) (oi := ⟨some 171, .fieldAddr 32 (.tmp 15) 1, 0, "law.go:201", #[⟨0, .phase⟩, ⟨1, .phase⟩, ⟨2, .phase⟩, ⟨3, .phase⟩, ⟨4, .phase⟩, ⟨5, .phase⟩, ⟨6, .phase⟩, ⟨7, .phase⟩, ⟨8, .phase⟩, ⟨9, .phase⟩, ⟨10, .phase⟩, ⟨11, .phase⟩, ⟨12, .phase⟩, ⟨13, .phase⟩, ⟨14, .phase⟩, ⟨15, .phase⟩, ⟨16, .phase⟩, ⟨17, .phase⟩, ⟨18, .phase⟩, ⟨19, .phase⟩], none⟩) (v := ?_) rfl (by kernel_rfl) (by kernel_rfl) (by kernel_rfl) (fun _ _ _ h => h) (by decide) (Or.inl ⟨by kernel_rfl, ?_⟩) (fun h => absurd h (by decide)) ?_
                                rotate_left
                                · (intro w hSw; clear hSw; go_simp; try with_reducible rfl)
                                try simp only [Act.put, setIfInBounds_toArray, set_cons_zero, set_cons_succ]
                                refine Rb.till_ready (rs := [21]) (by kernel_rfl) (by simp) ?_
                                refine Rb.AllT.past (o := ⟨none, .store 22 (.tmp 171) (.tmp 169), 0, "law.go:201", #[⟨20, .data⟩, ⟨17, .data⟩, ⟨19, .chain⟩, ⟨0, .phase⟩, ⟨1, .phase⟩, ⟨2, .phase⟩, ⟨3, .phase⟩, ⟨4, .phase⟩, ⟨5, .phase⟩, ⟨6, .phase⟩, ⟨7, .phase⟩, ⟨8, .phase⟩, ⟨9, .phase⟩, ⟨10, .phase⟩, ⟨11, .phase⟩, ⟨12, .phase⟩, ⟨13, .phase⟩, ⟨14, .phase⟩, ⟨15, .phase⟩, ⟨16, .phase⟩, ⟨17, .phase⟩, ⟨18, .phase⟩, ⟨19, .phase⟩], none⟩) rfl (by kernel_rfl) (fun K hK => ?_) (Rb.AllT.nil)
                                · go_simp
                                  try go_wp2_with fail
                                  refine hK.out _ _ trivial (fun hH6 => ?_)
                                  clear hK K hH5
                                  try simp only [Act.put, setIfInBounds_toArray, set_cons_zero, set_cons_succ]
                                  refine Rb.till_done (by kernel_rfl) ?_ _
                                  refine NoPanic.normal ?_
                                  have HFL : Hid (Wq g (vn.heap.size + 1) vn ((x12.setCell ⟨vn.heap.size, 0, none⟩ (.slice A7 (p + 1) c7)).setCell ⟨vn.heap.size, 1, none⟩ (.slice A12 (p + 1) c12)) (.slice A7 (p + 1) c7) (.slice A12 (p + 1) c12) (p + 1) (p + 1) (nS F0 kq mo (p + 1)) (nB kq mo (p + 1)) ∧ Bk ((x12.setCell ⟨vn.heap.size, 0, none⟩ (.slice A7 (p + 1) c7)).setCell ⟨vn.heap.size, 1, none⟩ (.slice A12 (p + 1) c12)) vn.heap.size 32 #[.slice A7 (p + 1) c7, .slice A12 (p + 1) c12]) := by
                                    show _ ∧ _
                                    rw [(HSN.out _ HYN.out).1, (HSN.out _ HYN.out).2, show 4 - (kq + 1) = 3 - kq by omega]
                                    exact ⟨(HQ12.out.1.st (Nat.le_refl _) (Nat.lt_succ_self _) HGN.out _ _).st (Nat.le_refl _) (Nat.lt_succ_self _) HGN.out _ _, (HQ12.out.2.st 0 _).st 1 _⟩
                                  go_wp2_with fail
                                  go_roundw
                                  case rel => exact ⟨p + 1, _, _, _, rfl, by omega, by go_num, HFL.out.1, HFL.out.2⟩
                                  case measure => simp [intOf]; omega
                        · go_simp
                          try go_wp2_with fail
                          refine hK.out _ _ ?_ (fun hH2 => ?_)
                          · (try dsimp only); exact KSN.out _ (HQ6.out.1.ch.tr (Ch.of_bel (by repeat (first | exact Bel.rf | with_reducible refine Bel.drwN ?_ _ | with_reducible refine Bel.drw ?_ | with_reducible refine Bel.al ?_ _)))) (HQ6.out.2.bel (by repeat (first | exact Bel.rf | with_reducible refine Bel.drwN ?_ _ | with_reducible refine Bel.drw ?_ | with_reducible refine Bel.al ?_ _)))
                          clear hK K hH1
                          try simp only [Act.put, setIfInBounds_toArray, set_cons_zero, set_cons_succ]
                          refine Rb.till_ready (rs := [12]) (by kernel_rfl) (by simp) ?_
                          refine Rb.AllT.cons (o := ⟨some 164, .call { callee := Callee.builtin Builtin.append, args := #[.tmp 153, .tmp 163], argTypes := #[22, 22] }, 22, "law.go:201", #[⟨1, .data⟩, ⟨11, .data⟩], none⟩) rfl (fun K hK => ?_) (Rb.AllT.nil)
                          · refine step_app _ rfl (.tmp 153) (.tmp 163) rfl (vn.heap.size + 1) u p S rfl (own_bel HQ6.out.1.ou (by repeat (first | exact Bel.rf | with_reducible refine Bel.drwN ?_ _ | with_reducible refine Bel.drw ?_ | with_reducible refine Bel.al ?_ _))) ⟨wi.heap.size, 0, none⟩ 1 1 [x / 2 ^ (3 - kq)] rfl (zi_bk (L := [x / 2 ^ (3 - kq)]) ((by repeat (first | (refine Bk.nq _ _ _ ?_; simp; done) | with_reducible refine Bk.drwN ?_ _ | with_reducible refine Bk.drw ?_ | with_reducible refine Bk.al ?_ _)) : Bk _ wi.heap.size 3 (zs [x / 2 ^ (3 - kq)]).toArray) 1 rfl) HI1.out (by have := HQ6.out.1.sz; simp; omega) ?_; intro v7 x7 h7 hg7 ha7; obtain ⟨A7, c7, hv7, _⟩ := own_any h7; subst hv7; have HQ7 : Hid (Wq g (vn.heap.size + 1) vn x7 (.slice A7 (p + 1) c7) v (p + 1) p (S ++ [x / 2 ^ (3 - kq)]) B ∧ Bk x7 vn.heap.size 32 #[u, v]) := ⟨(HQ6.out.1.up (by repeat (first | exact Bel.rf | with_reducible refine Bel.drwN ?_ _ | with_reducible refine Bel.drw ?_ | with_reducible refine Bel.al ?_ _))).ax h7 hg7 ha7, bk_grw (HQ6.out.2.bel (by repeat (first | exact Bel.rf | with_reducible refine Bel.drwN ?_ _ | with_reducible refine Bel.drw ?_ | with_reducible refine Bel.al ?_ _))) hg7 (fun e => by have := (HQ6.out.1.ou.lt _ e).1; omega)⟩; have HX7 : Hid (Bk x7 (wi.heap.size + 1) 3 (zs [((kq : Int) + 1)]).toArray) := bk_grw ((by repeat (first | (refine Bk.nq _ _ _ ?_; simp; done) | with_reducible refine Bk.drwN ?_ _ | with_reducible refine Bk.drw ?_ | with_reducible refine Bk.al ?_ _)) : Bk _ (wi.heap.size + 1) 3 (zs [((kq : Int) + 1)]).toArray) hg7 (fun e => by have := HBU.out _ e; omega); clear h7 hg7 ha7
                            try go_wp2_with fail
                            refine hK.out _ _ ?_ (fun hH3 => ?_)
                            · (try dsimp only); exact KSN.out _ (HQ7.out.1.ch.tr (Ch.of_bel (by repeat (first | exact Bel.rf | with_reducible refine Bel.drwN ?_ _ | with_reducible refine Bel.drw ?_ | with_reducible refine Bel.al ?_ _)))) (HQ7.out.2.bel (by repeat (first | exact Bel.rf | with_reducible refine Bel.drwN ?_ _ | with_reducible refine Bel.drw ?_ | with_reducible refine Bel.al ?_ _)))
                            clear hK K hH2
                            try simp only [Act.put, setIfInBounds_toArray, set_cons_zero, set_cons_succ]
                            refine Rb.till_take (i := 18) (oi := ⟨some 170, .fieldAddr 32 (.tmp 15) 0, 0, "law.go:201", #[⟨0, .phase⟩, ⟨1, .phase⟩, ⟨2, .phase⟩, ⟨3, .phase⟩, ⟨4, .phase⟩, ⟨5, .phase⟩, ⟨6, .phase⟩, ⟨7, .phase⟩, ⟨8, .phase⟩, ⟨9, .phase⟩, ⟨10, .phase⟩, ⟨11, .phase⟩, ⟨12, .phase⟩, ⟨13, .phase⟩, ⟨14, .phase⟩, ⟨15, .textOnly Departure.lateStores⟩, ⟨16, .textOnly Departure.lateStores⟩, ⟨17, .textOnly Departure.lateStoresUnsure⟩], none⟩) (v := ?_) rfl (by kernel_rfl) (by kernel_rfl) (by kernel_rfl) (fun _ _ _ h => h) (by decide) opN rfl (by kernel_rfl) (by kernel_rfl) (Or.inl ⟨by kernel_rfl, ?_⟩) (by assumption) ?_
                            rotate_left
                            · (intro w hSw; (try dsimp only at hSw); obtain ⟨d1, d2, d3, d4⟩ := hSw; go_simp; try with_reducible rfl)
                            try simp only [Act.put, setIfInBounds_toArray, set_cons_zero, set_cons_succ]
                            refine Rb.till_ready (rs := [17]) (by kernel_rfl) (by simp) ?_
                            refine Rb.AllT.cons (o := ⟨some 169, .call { callee := Callee.builtin Builtin.append, args := #[.tmp 166, .tmp 168], argTypes := #[22, 22] }, 22, "law.go:201", #[⟨14, .data⟩, ⟨16, .data⟩, ⟨12, .chain⟩], none⟩) rfl (fun K hK => ?_) (Rb.AllT.nil)
                            · refine step_app _ rfl (.tmp 166) (.tmp 168) rfl (vn.heap.size + 1) v p B rfl (own_bel HQ7.out.1.ov (by repeat (first | exact Bel.rf | with_reducible refine Bel.drwN ?_ _ | with_reducible refine Bel.drw ?_ | with_reducible refine Bel.al ?_ _))) ⟨wi.heap.size + 1, 0, none⟩ 1 1 [((kq : Int) + 1)] rfl (zi_bk (L := [((kq : Int) + 1)]) (HX7.out.bel (by repeat (first | exact Bel.rf | with_reducible refine Bel.drwN ?_ _ | with_reducible refine Bel.drw ?_ | with_reducible refine Bel.al ?_ _))) 1 rfl) HI1.out (by have := HQ7.out.1.sz; simp; omega) ?_; intro v12 x12 h12 hg12 ha12; obtain ⟨A12, c12, hv12, _⟩ := own_any h12; subst hv12; have HQ12 : Hid (Wq g (vn.heap.size + 1) vn x12 (.slice A7 (p + 1) c7) (.slice A12 (p + 1) c12) (p + 1) (p + 1) (S ++ [x / 2 ^ (3 - kq)]) (B ++ [((kq : Int) + 1)]) ∧ Bk x12 vn.heap.size 32 #[u, v]) := ⟨((HQ7.out.1.up (by repeat (first | exact Bel.rf | with_reducible refine Bel.drwN ?_ _ | with_reducible refine Bel.drw ?_ | with_reducible refine Bel.al ?_ _))).sx.ax h12 hg12 ha12).sx, bk_grw (HQ7.out.2.bel (by repeat (first | exact Bel.rf | with_reducible refine Bel.drwN ?_ _ | with_reducible refine Bel.drw ?_ | with_reducible refine Bel.al ?_ _))) hg12 (fun e => by have := (HQ7.out.1.ov.lt _ e).1; omega)⟩; have y0 := HQ12.out.2.cell 0; have y1 := HQ12.out.2.cell 1; have z0 := HQ12.out.2.fr 0; have z1 := HQ12.out.2.fr 1; simp only [getElem?_toArray, getElem?_cons_zero, getElem?_cons_succ] at y0 y1; clear h12 hg12 ha12
                              try go_wp2_with fail
                              refine hK.out _ _ ?_ (fun hH4 => ?_)
                              · (try dsimp only); exact KSN.out _ (HQ12.out.1.ch.tr (Ch.of_bel (by repeat (first | exact Bel.rf | with_reducible refine Bel.drwN ?_ _ | with_reducible refine Bel.drw ?_ | with_reducible refine Bel.al ?_ _)))) (HQ12.out.2.bel (by repeat (first | exact Bel.rf | with_reducible refine Bel.drwN ?_ _ | with_reducible refine Bel.drw ?_ | with_reducible refine Bel.al ?_ _)))
                              clear hK K hH3
                              try simp only [Act.put, setIfInBounds_toArray, set_cons_zero, set_cons_succ]
                              refine Rb.till_ready (rs := [19]) (by kernel_rfl) (by simp) ?_
                              refine Rb.AllT.past (o := ⟨none, .store 22 (.tmp 170) (.tmp 164), 0, "law.go:201", #[⟨18, .data⟩, ⟨12, .data⟩, ⟨17, .chain⟩, ⟨0, .phase⟩, ⟨1, .phase⟩, ⟨2, .phase⟩, ⟨3, .phase⟩, ⟨4, .phase⟩, ⟨5, .phase⟩, ⟨6, .phase⟩, ⟨7, .phase⟩, ⟨8, .phase⟩, ⟨9, .phase⟩, ⟨10, .phase⟩, ⟨11, .phase⟩, ⟨12, .phase⟩, ⟨13, .phase⟩, ⟨14, .phase⟩, ⟨15, .textOnly Departure.lateStores⟩, ⟨16, .textOnly Departure.lateStores⟩, ⟨17, .textOnly Departure.lateStoresUnsure⟩], none⟩) rfl (by kernel_rfl) (fun K hK => ?_) (Rb.AllT.nil)
                              · go_simp
                                try go_wp2_with fail
                                refine hK.out _ _ trivial (fun hH5 => ?_)
                                clear hK K hH4
                                try simp only [Act.put, setIfInBounds_toArray, set_cons_zero, set_cons_succ]
                                refine Rb.till_free (i := 20) (oi := ⟨some 171, .fieldAddr 32 (.tmp 15) 1, 0, "law.go:201", #[⟨0, .phase⟩, ⟨1, .phase⟩, ⟨2, .phase⟩, ⟨3, .phase⟩, ⟨4, .phase⟩, ⟨5, .phase⟩, ⟨6, .phase⟩, ⟨7, .phase⟩, ⟨8, .phase⟩, ⟨9, .phase⟩, ⟨10, .phase⟩, ⟨11, .phase⟩, ⟨12, .phase⟩, ⟨13, .phase⟩, ⟨14, .phase⟩, ⟨15, .phase⟩, ⟨16, .phase⟩, ⟨17, .phase⟩, ⟨18, .phase⟩, ⟨19, .phase⟩], none⟩) (v := ?_) rfl (by kernel_rfl) (by kernel_rfl) (by kernel_rfl) (fun _ _ _ h => h) (by decide) (Or.inl ⟨by kernel_rfl, ?_⟩) (fun h => absurd h (by decide)) ?_
                                rotate_left
                                · (intro w hSw; clear hSw; go_simp; try with_reducible rfl)
                                try simp only [Act.put, setIfInBounds_toArray, set_cons_zero, set_cons_succ]
                                refine Rb.till_ready (rs := [21]) (by kernel_rfl) (by simp) ?_
                                refine Rb.AllT.past (o := ⟨none, .store 22 (.tmp 171) (.tmp 169), 0, "law.go:201", #[⟨20, .data⟩, ⟨17, .data⟩, ⟨19, .chain⟩, ⟨0, .phase⟩, ⟨1, .phase⟩, ⟨2, .phase⟩, ⟨3, .phase⟩, ⟨4, .phase⟩, ⟨5, .phase⟩, ⟨6, .phase⟩, ⟨7, .phase⟩, ⟨8, .phase⟩, ⟨9, .phase⟩, ⟨10, .phase⟩, ⟨11, .phase⟩, ⟨12, .phase⟩, ⟨13, .phase⟩, ⟨14, .phase⟩, ⟨15, .phase⟩, ⟨16, .phase⟩, ⟨17, .phase⟩, ⟨18, .phase⟩, ⟨19, .phase⟩], none⟩) rfl (by kernel_rfl) (fun K hK => ?_) (Rb.AllT.nil)
                                · go_simp
                                  try go_wp2_with fail
                                  refine hK.out _ _ trivial (fun hH6 => ?_)
                                  clear hK K hH5
                                  try simp only [Act.put, setIfInBounds_toArray, set_cons_zero, set_cons_succ]
                                  refine Rb.till_done (by kernel_rfl) ?_ _
                                  refine NoPanic.normal ?_
                                  have HFL : Hid (Wq g (vn.heap.size + 1) vn ((x12.setCell ⟨vn.heap.size, 0, none⟩ (.slice A7 (p + 1) c7)).setCell ⟨vn.heap.size, 1, none⟩ (.slice A12 (p + 1) c12)) (.slice A7 (p + 1) c7) (.slice A12 (p + 1) c12) (p + 1) (p + 1) (nS F0 kq mo (p + 1)) (nB kq mo (p + 1)) ∧ Bk ((x12.setCell ⟨vn.heap.size, 0, none⟩ (.slice A7 (p + 1) c7)).setCell ⟨vn.heap.size, 1, none⟩ (.slice A12 (p + 1) c12)) vn.heap.size 32 #[.slice A7 (p + 1) c7, .slice A12 (p + 1) c12]) := by
                                    show _ ∧ _
                                    rw [(HSN.out _ HYN.out).1, (HSN.out _ HYN.out).2, show 4 - (kq + 1) = 3 - kq by omega]
                                    exact ⟨(HQ12.out.1.st (Nat.le_refl _) (Nat.lt_succ_self _) HGN.out _ _).st (Nat.le_refl _) (Nat.lt_succ_self _) HGN.out _ _, (HQ12.out.2.st 0 _).st 1 _⟩
                                  go_wp2_with fail
                                  go_roundw
                                  case rel => exact ⟨p + 1, _, _, _, rfl, by omega, by go_num, HFL.out.1, HFL.out.2⟩
                                  case measure => simp [intOf]; omega
                      · go_simp
                        try go_wp2_with fail
                        refine hK.out _ _ ?_ (fun hH1 => ?_)
                        · (try dsimp only); exact KSN.out _ (HQ6.out.1.ch.tr (Ch.of_bel (by repeat (first | exact Bel.rf | with_reducible refine Bel.drwN ?_ _ | with_reducible refine Bel.drw ?_ | with_reducible refine Bel.al ?_ _)))) (HQ6.out.2.bel (by repeat (first | exact Bel.rf | with_reducible refine Bel.drwN ?_ _ | with_reducible refine Bel.drw ?_ | with_reducible refine Bel.al ?_ _)))
                        clear hK K hH0
                        try simp only [Act.put, setIfInBounds_toArray, set_cons_zero, set_cons_succ]
                        refine Rb.till_ready (rs := [11]) (by kernel_rfl) (by simp) ?_
                        refine Rb.AllT.cons (o := ⟨some 163, .buildSlice 22 1 #[(0, .tmp 162)], 22, "law.go:201", #[⟨10, .data⟩], none⟩) rfl (fun K hK => ?_) (Rb.AllT.nil)
                        · go_simp
                          try go_wp2_with fail
                          refine hK.out _ _ ?_ (fun hH2 => ?_)
                          · (try dsimp only); exact KSN.out _ (HQ6.out.1.ch.tr (Ch.of_bel (by repeat (first | exact Bel.rf | with_reducible refine Bel.drwN ?_ _ | with_reducible refine Bel.drw ?_ | with_reducible refine Bel.al ?_ _)))) (HQ6.out.2.bel (by repeat (first | exact Bel.rf | with_reducible refine Bel.drwN ?_ _ | with_reducible refine Bel.drw ?_ | with_reducible refine Bel.al ?_ _)))
                          clear hK K hH1
                          try simp only [Act.put, setIfInBounds_toArray, set_cons_zero, set_cons_succ]
                          refine Rb.till_ready (rs := [12]) (by kernel_rfl) (by simp) ?_
                          refine Rb.AllT.cons (o := ⟨some 164, .call { callee := Callee.builtin Builtin.append, args := #[.tmp 153, .tmp 163], argTypes := #[22, 22] }, 22, "law.go:201", #[⟨1, .data⟩, ⟨11, .data⟩], none⟩) rfl (fun K hK => ?_) (Rb.AllT.nil)
                          · refine step_app _ rfl (.tmp 153) (.tmp 163) rfl (vn.heap.size + 1) u p S rfl (own_bel HQ6.out.1.ou (by repeat (first | exact Bel.rf | with_reducible refine Bel.drwN ?_ _ | with_reducible refine Bel.drw ?_ | with_reducible refine Bel.al ?_ _))) ⟨wi.heap.size + 1, 0, none⟩ 1 1 [x / 2 ^ (3 - kq)] rfl (zi_bk (L := [x / 2 ^ (3 - kq)]) ((by repeat (first | (refine Bk.nq _ _ _ ?_; simp; done) | with_reducible refine Bk.drwN ?_ _ | with_reducible refine Bk.drw ?_ | with_reducible refine Bk.al ?_ _)) : Bk _ (wi.heap.size + 1) 3 (zs [x / 2 ^ (3 - kq)]).toArray) 1 rfl) HI1.out (by have := HQ6.out.1.sz; simp; omega) ?_; intro v7 x7 h7 hg7 ha7; obtain ⟨A7, c7, hv7, _⟩ := own_any h7; subst hv7; have HQ7 : Hid (Wq g (vn.heap.size + 1) vn x7 (.slice A7 (p + 1) c7) v (p + 1) p (S ++ [x / 2 ^ (3 - kq)]) B ∧ Bk x7 vn.heap.size 32 #[u, v]) := ⟨(HQ6.out.1.up (by repeat (first | exact Bel.rf | with_reducible refine Bel.drwN ?_ _ | with_reducible refine Bel.drw ?_ | with_reducible refine Bel.al ?_ _))).ax h7 hg7 ha7, bk_grw (HQ6.out.2.bel (by repeat (first | exact Bel.rf | with_reducible refine Bel.drwN ?_ _ | with_reducible refine Bel.drw ?_ | with_reducible refine Bel.al ?_ _))) hg7 (fun e => by have := (HQ6.out.1.ou.lt _ e).1; omega)⟩; have HX7 : Hid (Bk x7 wi.heap.size 3 (zs [((kq : Int) + 1)]).toArray) := bk_grw ((by repeat (first | (refine Bk.nq _ _ _ ?_; simp; done) | with_reducible refine Bk.drwN ?_ _ | with_reducible refine Bk.drw ?_ | with_reducible refine Bk.al ?_ _)) : Bk _ wi.heap.size 3 (zs [((kq : Int) + 1)]).toArray) hg7 (fun e => by have := HBU.out _ e; omega); clear h7 hg7 ha7
                            try go_wp2_with fail
                            refine hK.out _ _ ?_ (fun hH3 => ?_)
                            · (try dsimp only); exact KSN.out _ (HQ7.out.1.ch.tr (Ch.of_bel (by repeat (first | exact Bel.rf | with_reducible refine Bel.drwN ?_ _ | with_reducible refine Bel.drw ?_ | with_reducible refine Bel.al ?_ _)))) (HQ7.out.2.bel (by repeat (first | exact Bel.rf | with_reducible refine Bel.drwN ?_ _ | with_reducible refine Bel.drw ?_ | with_reducible refine Bel.al ?_ _)))
                            clear hK K hH2
                            try simp only [Act.put, setIfInBounds_toArray, set_cons_zero, set_cons_succ]
                            refine Rb.till_take (i := 18) (oi := ⟨some 170, .fieldAddr 32 (.tmp 15) 0, 0, "law.go:201", #[⟨0, .phase⟩, ⟨1, .phase⟩, ⟨2, .phase⟩, ⟨3, .phase⟩, ⟨4, .phase⟩, ⟨5, .phase⟩, ⟨6, .phase⟩, ⟨7, .phase⟩, ⟨8, .phase⟩, ⟨9, .phase⟩, ⟨10, .phase⟩, ⟨11, .phase⟩, ⟨12, .phase⟩, ⟨13, .phase⟩, ⟨14, .phase⟩, ⟨15, .textOnly Departure.lateStores⟩, ⟨16, .textOnly Departure.lateStores⟩, ⟨17, .textOnly Departure.lateStoresUnsure⟩], none⟩) (v := ?_) rfl (by kernel_rfl) (by kernel_rfl) (by kernel_rfl) (fun _ _ _ h => h) (by decide) opN rfl (by kernel_rfl) (by kernel_rfl) (Or.inl ⟨by kernel_rfl, ?_⟩) (by assumption) ?_
                            rotate_left
                            · (intro w hSw; (try dsimp only at hSw); obtain ⟨d1, d2, d3, d4⟩ := hSw; go_simp; try with_reducible rfl)
                            try simp only [Act.put, setIfInBounds_toArray, set_cons_zero, set_cons_succ]
                            refine Rb.till_ready (rs := [17]) (by kernel_rfl) (by simp) ?_
                            refine Rb.AllT.cons (o := ⟨some 169, .call { callee := Callee.builtin Builtin.append, args := #[.tmp 166, .tmp 168], argTypes := #[22, 22] }, 22, "law.go:201", #[⟨14, .data⟩, ⟨16, .data⟩, ⟨12, .chain⟩], none⟩) rfl (fun K hK => ?_) (Rb.AllT.nil)
                            · refine step_app _ rfl (.tmp 166) (.tmp 168) rfl (vn.heap.size + 1) v p B rfl (own_bel HQ7.out.1.ov (by repeat (first | exact Bel.rf | with_reducible refine Bel.drwN ?_ _ | with_reducible refine Bel.drw ?_ | with_reducible refine Bel.al ?_ _))) ⟨wi.heap.size, 0, none⟩ 1 1 [((kq : Int) + 1)] rfl (zi_bk (L := [((kq : Int) + 1)]) (HX7.out.bel (by repeat (first | exact Bel.rf | with_reducible refine Bel.drwN ?_ _ | with_reducible refine Bel.drw ?_ | with_reducible refine Bel.al ?_ _))) 1 rfl) HI1.out (by have := HQ7.out.1.sz; simp; omega) ?_; intro v12 x12 h12 hg12 ha12; obtain ⟨A12, c12, hv12, _⟩ := own_any h12; subst hv12; have HQ12 : Hid (Wq g (vn.heap.size + 1) vn x12 (.slice A7 (p + 1) c7) (.slice A12 (p + 1) c12) (p + 1) (p + 1) (S ++ [x / 2 ^ (3 - kq)]) (B ++ [((kq : Int) + 1)]) ∧ Bk x12 vn.heap.size 32 #[u, v]) := ⟨((HQ7.out.1.up (by repeat (first | exact Bel.rf | with_reducible refine Bel.drwN ?_ _ | with_reducible refine Bel.drw ?_ | with_reducible refine Bel.al ?_ _))).sx.ax h12 hg12 ha12).sx, bk_grw (HQ7.out.2.bel (by repeat (first | exact Bel.rf | with_reducible refine Bel.drwN ?_ _ | with_reducible refine Bel.drw ?_ | with_reducible refine Bel.al ?_ _))) hg12 (fun e => by have := (HQ7.out.1.ov.lt _ e).1; omega)⟩; have y0 := HQ12.out.2.cell 0; have y1 := HQ12.out.2.cell 1; have z0 := HQ12.out.2.fr 0; have z1 := HQ12.out.2.fr 1; simp only [getElem?_toArray, getElem?_cons_zero, getElem?_cons_succ] at y0 y1; clear h12 hg12 ha12
                              try go_wp2_with fail
                              refine hK.out _ _ ?_ (fun hH4 => ?_)
                              · (try dsimp only); exact KSN.out _ (HQ12.out.1.ch.tr (Ch.of_bel (by repeat (first | exact Bel.rf | with_reducible refine Bel.drwN ?_ _ | with_reducible refine Bel.drw ?_ | with_reducible refine Bel.al ?_ _)))) (HQ12.out.2.bel (by repeat (first | exact Bel.rf | with_reducible refine Bel.drwN ?_ _ | with_reducible refine Bel.drw ?_ | with_reducible refine Bel.al ?_ _)))
                              clear hK K hH3
                              try simp only [Act.put, setIfInBounds_toArray, set_cons_zero, set_cons_succ]
                              refine Rb.till_ready (rs := [19]) (by kernel_rfl) (by simp) ?_
                              refine Rb.AllT.past (o := ⟨none, .store 22 (.tmp 170) (.tmp 164), 0, "law.go:201", #[⟨18, .data⟩, ⟨12, .data⟩, ⟨17, .chain⟩, ⟨0, .phase⟩, ⟨1, .phase⟩, ⟨2, .phase⟩, ⟨3, .phase⟩, ⟨4, .phase⟩, ⟨5, .phase⟩, ⟨6, .phase⟩, ⟨7, .phase⟩, ⟨8, .phase⟩, ⟨9, .phase⟩, ⟨10, .phase⟩, ⟨11, .phase⟩, ⟨12, .phase⟩, ⟨13, .phase⟩, ⟨14, .phase⟩, ⟨15, .textOnly Departure.lateStores⟩, ⟨16, .textOnly Departure.lateStores⟩, ⟨17, .textOnly Departure.lateStoresUnsure⟩], none⟩) rfl (by kernel_rfl) (fun K hK => ?_) (Rb.AllT.nil)
                              · go_simp
                                try go_wp2_with fail
                                refine hK.out _ _ trivial (fun hH5 => ?_)
                                clear hK K hH4
                                try simp only [Act.put, setIfInBounds_toArray, set_cons_zero, set_cons_succ]
                                refine Rb.till_free (i := 20) (oi := ⟨some 171, .fieldAddr 32 (.tmp 15) 1, 0, "law.go:201", #[⟨0, .phase⟩, ⟨1, .phase⟩, ⟨2, .phase⟩, ⟨3, .phase⟩, ⟨4, .phase⟩, ⟨5, .phase⟩, ⟨6, .phase⟩, ⟨7, .phase⟩, ⟨8, .phase⟩, ⟨9, .phase⟩, ⟨10, .phase⟩, ⟨11, .phase⟩, ⟨12, .phase⟩, ⟨13, .phase⟩, ⟨14, .phase⟩, ⟨15, .phase⟩, ⟨16, .phase⟩, ⟨17, .phase⟩, ⟨18, .phase⟩, ⟨19, .phase⟩], none⟩) (v := ?_) rfl (by kernel_rfl) (by kernel_rfl) (by kernel_rfl) (fun _ _ _ h => h) (by decide) (Or.inl ⟨by kernel_rfl, ?_⟩) (fun h => absurd h (by decide)) ?_
                                rotate_left
                                · (intro w hSw; clear hSw; go_simp; try with_reducible rfl)
                                try simp only [Act.put, setIfInBounds_toArray, set_cons_zero, set_cons_succ]
                                refine Rb.till_ready (rs := [21]) (by kernel_rfl) (by simp) ?_
                                refine Rb.AllT.past (o := ⟨none, .store 22 (.tmp 171) (.tmp 169), 0, "law.go:201", #[⟨20, .data⟩, ⟨17, .data⟩, ⟨19, .chain⟩, ⟨0, .phase⟩, ⟨1, .phase⟩, ⟨2, .phase⟩, ⟨3, .phase⟩, ⟨4, .phase⟩, ⟨5, .phase⟩, ⟨6, .phase⟩, ⟨7, .phase⟩, ⟨8, .phase⟩, ⟨9, .phase⟩, ⟨10, .phase⟩, ⟨11, .phase⟩, ⟨12, .phase⟩, ⟨13, .phase⟩, ⟨14, .phase⟩, ⟨15, .phase⟩, ⟨16, .phase⟩, ⟨17, .phase⟩, ⟨18, .phase⟩, ⟨19, .phase⟩], none⟩) rfl (by kernel_rfl) (fun K hK => ?_) (Rb.AllT.nil)
                                · go_simp
                                  try go_wp2_with fail
                                  refine hK.out _ _ trivial (fun hH6 => ?_)
                                  clear hK K hH5
                                  try simp only [Act.put, setIfInBounds_toArray, set_cons_zero, set_cons_succ]
                                  refine Rb.till_done (by kernel_rfl) ?_ _
                                  refine NoPanic.normal ?_
                                  have HFL : Hid (Wq g (vn.heap.size + 1) vn ((x12.setCell ⟨vn.heap.size, 0, none⟩ (.slice A7 (p + 1) c7)).setCell ⟨vn.heap.size, 1, none⟩ (.slice A12 (p + 1) c12)) (.slice A7 (p + 1) c7) (.slice A12 (p + 1) c12) (p + 1) (p + 1) (nS F0 kq mo (p + 1)) (nB kq mo (p + 1)) ∧ Bk ((x12.setCell ⟨vn.heap.size, 0, none⟩ (.slice A7 (p + 1) c7)).setCell ⟨vn.heap.size, 1, none⟩ (.slice A12 (p + 1) c12)) vn.heap.size 32 #[.slice A7 (p + 1) c7, .slice A12 (p + 1) c12]) := by
                                    show _ ∧ _
                                    rw [(HSN.out _ HYN.out).1, (HSN.out _ HYN.out).2, show 4 - (kq + 1) = 3 - kq by omega]
                                    exact ⟨(HQ12.out.1.st (Nat.le_refl _) (Nat.lt_succ_self _) HGN.out _ _).st (Nat.le_refl _) (Nat.lt_succ_self _) HGN.out _ _, (HQ12.out.2.st 0 _).st 1 _⟩
                                  go_wp2_with fail
                                  go_roundw
                                  case rel => exact ⟨p + 1, _, _, _, rfl, by omega, by go_num, HFL.out.1, HFL.out.2⟩
                                  case measure => simp [intOf]; omega
                  · have pl : (p : Int) < (mo : Int) := by omega
                    have kl : ¬ (kq : Int) < 4 := by omega
                    have kl2 : decide ((kq : Int) < 4) = false := decide_eq_false kl
                    have HYN : Hid (nb kq mo p = kq) := by show _ = _; unfold nb; rw [if_neg (by omega)]
                    have wsb : IntKind.i64.wrap (4 - (kq : Int)) = ((4 - kq : Nat) : Int) := by rw [IntWalk.i64_in _ (by have := HK4.out; omega)]; have := HK4.out; omega
                    as_aux_lemma =>
                      go_upto_region 26 with fail
                      refine wp_region_noPanic ?_
                      refine Rb.wp_region_till (S := fun W : World => W.cell? ⟨vn.heap.size, 0, none⟩ = some u ∧ W.cell? ⟨vn.heap.size, 1, none⟩ = some v ∧ W.cell? ⟨v2.heap.size + 1, 0, none⟩ = some (.slice (some sad) n sc) ∧ W.cell? (sad.add p) = some (.int .i64 x)) 19 (by kernel_rfl) ?_ (fun hH0 => ?_)
                      · (try dsimp only); exact KSN.out _ (HQ6.out.1.ch.tr (Ch.of_bel (by repeat (first | exact Bel.rf | with_reducible refine Bel.drwN ?_ _ | with_reducible refine Bel.drw ?_ | with_reducible refine Bel.al ?_ _)))) (HQ6.out.2.bel (by repeat (first | exact Bel.rf | with_reducible refine Bel.drwN ?_ _ | with_reducible refine Bel.drw ?_ | with_reducible refine Bel.al ?_ _)))
                      refine Rb.till_take (i := 0) (oi := ⟨some 152, .fieldAddr 32 (.tmp 15) 0, 0, "law.go:201", #[], none⟩) (v := ?_) rfl (by kernel_rfl) (by kernel_rfl) (by kernel_rfl) (fun _ _ _ h => h) (by decide) opN rfl (by kernel_rfl) (by kernel_rfl) (Or.inl ⟨by kernel_rfl, ?_⟩) (by assumption) ?_
                      rotate_left
                      · (intro w hSw; (try dsimp only at hSw); obtain ⟨d1, d2, d3, d4⟩ := hSw; go_simp; try with_reducible rfl)
                      try simp only [Act.put, setIfInBounds_toArray, set_cons_zero, set_cons_succ]
                      refine Rb.till_take (i := 1) (oi := ⟨some 153, .load 22 (.tmp 152), 22, "law.go:201", #[⟨0, .data⟩], none⟩) (v := ?_) rfl (by kernel_rfl) (by kernel_rfl) (by kernel_rfl) (fun _ _ _ h => h) (by decide) opN rfl (by kernel_rfl) (by kernel_rfl) (Or.inl ⟨by kernel_rfl, ?_⟩) (by assumption) ?_
                      rotate_left
                      · (intro w hSw; (try dsimp only at hSw); obtain ⟨d1, d2, d3, d4⟩ := hSw; go_simp; try with_reducible rfl)
                      try simp only [Act.put, setIfInBounds_toArray, set_cons_zero, set_cons_succ]
                      refine Rb.till_take (i := 2) (oi := ⟨some 154, .indexAddr 55 (.tmp 7) (.const (.int IntKind.i64 0)), 0, "law.go:201", #[], none⟩) (v := ?_) rfl (by kernel_rfl) (by kernel_rfl) (by kernel_rfl) (fun _ _ _ h => h) (by decide) opN rfl (by kernel_rfl) (by kernel_rfl) (Or.inl ⟨by kernel_rfl, ?_⟩) (by assumption) ?_
                      rotate_left
                      · (intro w hSw; (try dsimp only at hSw); obtain ⟨d1, d2, d3, d4⟩ := hSw; go_simp; try with_reducible rfl)
                      try simp only [Act.put, setIfInBounds_toArray, set_cons_zero, set_cons_succ]
                      refine Rb.till_take (i := 3) (oi := ⟨some 155, .fieldAddr 32 (.tmp 154) 0, 0, "law.go:201", #[⟨2, .data⟩], none⟩) (v := ?_) rfl (by kernel_rfl) (by kernel_rfl) (by kernel_rfl) (fun _ _ _ h => h) (by decide) opN rfl (by kernel_rfl) (by kernel_rfl) (Or.inl ⟨by kernel_rfl, ?_⟩) (by assumption) ?_
                      rotate_left
                      · (intro w hSw; (try dsimp only at hSw); obtain ⟨d1, d2, d3, d4⟩ := hSw; go_simp; try with_reducible rfl)
                      try simp only [Act.put, setIfInBounds_toArray, set_cons_zero, set_cons_succ]
                      refine Rb.till_take (i := 4) (oi := ⟨some 156, .load 22 (.tmp 155), 22, "law.go:201", #[⟨3, .data⟩], none⟩) (v := ?_) rfl (by kernel_rfl) (by kernel_rfl) (by kernel_rfl) (fun _ _ _ h => h) (by decide) opN rfl (by kernel_rfl) (by kernel_rfl) (Or.inl ⟨by kernel_rfl, ?_⟩) (by assumption) ?_
                      rotate_left
                      · (intro w hSw; (try dsimp only at hSw); obtain ⟨d1, d2, d3, d4⟩ := hSw; go_simp; try with_reducible rfl)
                      try simp only [Act.put, setIfInBounds_toArray, set_cons_zero, set_cons_succ]
                      refine Rb.till_take (i := 5) (oi := ⟨some 157, .move (.tmp 16), 3, "law.go:201", #[], none⟩) (v := ?_) rfl (by kernel_rfl) (by kernel_rfl) (by kernel_rfl) (fun _ _ _ h => h) (by decide) opN rfl (by kernel_rfl) (by kernel_rfl) (Or.inl ⟨by kernel_rfl, ?_⟩) (by assumption) ?_
                      rotate_left
                      · (intro w hSw; (try dsimp only at hSw); obtain ⟨d1, d2, d3, d4⟩ := hSw; go_simp; try with_reducible rfl)
                      try simp only [Act.put, setIfInBounds_toArray, set_cons_zero, set_cons_succ]
                      refine Rb.till_take (i := 6) (oi := ⟨some 158, .indexAddr 22 (.tmp 156) (.tmp 157), 0, "law.go:201", #[⟨4, .data⟩, ⟨5, .data⟩], none⟩) (v := ?_) rfl (by kernel_rfl) (by kernel_rfl) (by kernel_rfl) (fun _ _ _ h => h) (by decide) opN rfl (by kernel_rfl) (by kernel_rfl) (Or.inl ⟨by kernel_rfl, ?_⟩) (by assumption) ?_
                      rotate_left
                      · (intro w hSw; (try dsimp only at hSw); obtain ⟨d1, d2, d3, d4⟩ := hSw; go_simp; try with_reducible rfl)
                      try simp only [Act.put, setIfInBounds_toArray, set_cons_zero, set_cons_succ]
                      refine Rb.till_take (i := 7) (oi := ⟨some 159, .load 3 (.tmp 158), 3, "law.go:201", #[⟨6, .data⟩], none⟩) (v := ?_) rfl (by kernel_rfl) (by kernel_rfl) (by kernel_rfl) (fun _ _ _ h => h) (by decide) opN rfl (by kernel_rfl) (by kernel_rfl) (Or.inl ⟨by kernel_rfl, ?_⟩) (by assumption) ?_
                      rotate_left
                      · (intro w hSw; (try dsimp only at hSw); obtain ⟨d1, d2, d3, d4⟩ := hSw; go_simp; try with_reducible rfl)
                      try simp only [Act.put, setIfInBounds_toArray, set_cons_zero, set_cons_succ]
                      refine Rb.till_take (i := 8) (oi := ⟨some 160, .move (.tmp 17), 3, "law.go:201", #[], none⟩) (v := ?_) rfl (by kernel_rfl) (by kernel_rfl) (by kernel_rfl) (fun _ _ _ h => h) (by decide) opN rfl (by kernel_rfl) (by kernel_rfl) (Or.inl ⟨by kernel_rfl, ?_⟩) (by assumption) ?_
                      rotate_left
                      · (intro w hSw; (try dsimp only at hSw); obtain ⟨d1, d2, d3, d4⟩ := hSw; go_simp; try with_reducible rfl)
                      try simp only [Act.put, setIfInBounds_toArray, set_cons_zero, set_cons_succ]
                      refine Rb.till_take (i := 9) (oi := ⟨some 161, .binOp BinOp.sub 3 (.const (.int IntKind.i64 4)) (.tmp 160) 3, 3, "law.go:201", #[⟨8, .data⟩], none⟩) (v := ?_) rfl (by kernel_rfl) (by kernel_rfl) (by kernel_rfl) (fun _ _ _ h => h) (by decide) opN rfl (by kernel_rfl) (by kernel_rfl) (Or.inl ⟨by kernel_rfl, ?_⟩) (by assumption) ?_
                      rotate_left
                      · (intro w hSw; (try dsimp only at hSw); obtain ⟨d1, d2, d3, d4⟩ := hSw; go_simp; try with_reducible rfl)
                      try simp only [Act.put, setIfInBounds_toArray, set_cons_zero, set_cons_succ]
                      refine Rb.till_take (i := 10) (oi := ⟨some 162, .binOp BinOp.shr 3 (.tmp 159) (.tmp 161) 3, 3, "law.go:201", #[⟨7, .data⟩, ⟨9, .data⟩], none⟩) (v := ?_) rfl (by kernel_rfl) (by kernel_rfl) (by kernel_rfl) (fun _ _ _ h => h) (by decide) opN rfl (by kernel_rfl) (by kernel_rfl) (Or.inl ⟨by kernel_rfl, ?_⟩) (by assumption) ?_
                      rotate_left
                      · (intro w hSw; (try dsimp only at hSw); obtain ⟨d1, d2, d3, d4⟩ := hSw; go_simp; try with_reducible rfl)
                      try simp only [Act.put, setIfInBounds_toArray, set_cons_zero, set_cons_succ]
                      refine Rb.till_take (i := 13) (oi := ⟨some 165, .fieldAddr 32 (.tmp 15) 1, 0, "law.go:201", #[], none⟩) (v := ?_) rfl (by kernel_rfl) (by kernel_rfl) (by kernel_rfl) (fun _ _ _ h => h) (by decide) opN rfl (by kernel_rfl) (by kernel_rfl) (Or.inl ⟨by kernel_rfl, ?_⟩) (by assumption) ?_
                      rotate_left
                      · (intro w hSw; (try dsimp only at hSw); obtain ⟨d1, d2, d3, d4⟩ := hSw; go_simp; try with_reducible rfl)
                      try simp only [Act.put, setIfInBounds_toArray, set_cons_zero, set_cons_succ]
                      refine Rb.till_take (i := 14) (oi := ⟨some 166, .load 22 (.tmp 165), 22, "law.go:201", #[⟨13, .data⟩], none⟩) (v := ?_) rfl (by kernel_rfl) (by kernel_rfl) (by kernel_rfl) (fun _ _ _ h => h) (by decide) opN rfl (by kernel_rfl) (by kernel_rfl) (Or.inl ⟨by kernel_rfl, ?_⟩) (by assumption) ?_
                      rotate_left
                      · (intro w hSw; (try dsimp only at hSw); obtain ⟨d1, d2, d3, d4⟩ := hSw; go_simp; try with_reducible rfl)
                      try simp only [Act.put, setIfInBounds_toArray, set_cons_zero, set_cons_succ]
                      refine Rb.till_free (i := 15) (oi := ⟨some 167, .move (.tmp 17), 3, "law.go:201", #[], none⟩) (v := ?_) rfl (by kernel_rfl) (by kernel_rfl) (by kernel_rfl) (fun _ _ _ h => h) (by decide) (Or.inl ⟨by kernel_rfl, ?_⟩) (fun _ => by assumption) ?_
                      rotate_left
                      · (intro w hSw; clear hSw; go_simp; try with_reducible rfl)
                      try simp only [Act.put, setIfInBounds_toArray, set_cons_zero, set_cons_succ]
                      refine Rb.till_ready (rs := [11, 16]) (by kernel_rfl) (by simp) ?_
                      refine Rb.AllT.cons (o := ⟨some 163, .buildSlice 22 1 #[(0, .tmp 162)], 22, "law.go:201", #[⟨10, .data⟩], none⟩) rfl (fun K hK => ?_) (Rb.AllT.cons (o := ⟨some 168, .buildSlice 22 1 #[(0, .tmp 167)], 22, "law.go:201", #[⟨15, .data⟩], none⟩) rfl (fun K hK => ?_) (Rb.AllT.nil))
                      · go_simp
                        try go_wp2_with fail
                        refine hK.out _ _ ?_ (fun hH1 => ?_)
                        · (try dsimp only); exact KSN.out _ (HQ6.out.1.ch.tr (Ch.of_bel (by repeat (first | exact Bel.rf | with_reducible refine Bel.drwN ?_ _ | with_reducible refine Bel.drw ?_ | with_reducible refine Bel.al ?_ _)))) (HQ6.out.2.bel (by repeat (first | exact Bel.rf | with_reducible refine Bel.drwN ?_ _ | with_reducible refine Bel.drw ?_ | with_reducible refine Bel.al ?_ _)))
                        clear hK K hH0
                        try simp only [Act.put, setIfInBounds_toArray, set_cons_zero, set_cons_succ]
                        refine Rb.till_ready (rs := [12, 16]) (by kernel_rfl) (by simp) ?_
                        refine Rb.AllT.cons (o := ⟨some 164, .call { callee := Callee.builtin Builtin.append, args := #[.tmp 153, .tmp 163], argTypes := #[22, 22] }, 22, "law.go:201", #[⟨1, .data⟩, ⟨11, .data⟩], none⟩) rfl (fun K hK => ?_) (Rb.AllT.cons (o := ⟨some 168, .buildSlice 22 1 #[(0, .tmp 167)], 22, "law.go:201", #[⟨15, .data⟩], none⟩) rfl (fun K hK => ?_) (Rb.AllT.nil))
                        · refine step_app _ rfl (.tmp 153) (.tmp 163) rfl (vn.heap.size + 1) u p S rfl (own_bel HQ6.out.1.ou (by repeat (first | exact Bel.rf | with_reducible refine Bel.drwN ?_ _ | with_reducible refine Bel.drw ?_ | with_reducible refine Bel.al ?_ _))) ⟨wi.heap.size, 0, none⟩ 1 1 [x] rfl (zi_bk (L := [x]) ((by repeat (first | (refine Bk.nq _ _ _ ?_; simp; done) | with_reducible refine Bk.drwN ?_ _ | with_reducible refine Bk.drw ?_ | with_reducible refine Bk.al ?_ _)) : Bk _ wi.heap.size 3 (zs [x]).toArray) 1 rfl) HI1.out (by have := HQ6.out.1.sz; simp; omega) ?_; intro v7 x7 h7 hg7 ha7; obtain ⟨A7, c7, hv7, _⟩ := own_any h7; subst hv7; have HQ7 : Hid (Wq g (vn.heap.size + 1) vn x7 (.slice A7 (p + 1) c7) v (p + 1) p (S ++ [x]) B ∧ Bk x7 vn.heap.size 32 #[u, v]) := ⟨(HQ6.out.1.up (by repeat (first | exact Bel.rf | with_reducible refine Bel.drwN ?_ _ | with_reducible refine Bel.drw ?_ | with_reducible refine Bel.al ?_ _))).ax h7 hg7 ha7, bk_grw (HQ6.out.2.bel (by repeat (first | exact Bel.rf | with_reducible refine Bel.drwN ?_ _ | with_reducible refine Bel.drw ?_ | with_reducible refine Bel.al ?_ _))) hg7 (fun e => by have := (HQ6.out.1.ou.lt _ e).1; omega)⟩; clear h7 hg7 ha7
                          try go_wp2_with fail
                          refine hK.out _ _ ?_ (fun hH2 => ?_)
                          · (try dsimp only); exact KSN.out _ (HQ7.out.1.ch.tr (Ch.of_bel (by repeat (first | exact Bel.rf | with_reducible refine Bel.drwN ?_ _ | with_reducible refine Bel.drw ?_ | with_reducible refine Bel.al ?_ _)))) (HQ7.out.2.bel (by repeat (first | exact Bel.rf | with_reducible refine Bel.drwN ?_ _ | with_reducible refine Bel.drw ?_ | with_reducible refine Bel.al ?_ _)))
                          clear hK K hH1
                          try simp only [Act.put, setIfInBounds_toArray, set_cons_zero, set_cons_succ]
                          refine Rb.till_take (i := 18) (oi := ⟨some 170, .fieldAddr 32 (.tmp 15) 0, 0, "law.go:201", #[⟨0, .phase⟩, ⟨1, .phase⟩, ⟨2, .phase⟩, ⟨3, .phase⟩, ⟨4, .phase⟩, ⟨5, .phase⟩, ⟨6, .phase⟩, ⟨7, .phase⟩, ⟨8, .phase⟩, ⟨9, .phase⟩, ⟨10, .phase⟩, ⟨11, .phase⟩, ⟨12, .phase⟩, ⟨13, .phase⟩, ⟨14, .phase⟩, ⟨15, .textOnly Departure.lateStores⟩, ⟨16, .textOnly Departure.lateStores⟩, ⟨17, .textOnly Departure.lateStoresUnsure⟩], none⟩) (v := ?_) rfl (by kernel_rfl) (by kernel_rfl) (by kernel_rfl) (fun _ _ _ h => h) (by decide) opN rfl (by kernel_rfl) (by kernel_rfl) (Or.inl ⟨by kernel_rfl, ?_⟩) (by assumption) ?_
                          rotate_left
                          · (intro w hSw; (try dsimp only at hSw); obtain ⟨d1, d2, d3, d4⟩ := hSw; go_simp; try with_reducible rfl)
                          try simp only [Act.put, setIfInBounds_toArray, set_cons_zero, set_cons_succ]
                          refine Rb.till_ready (rs := [16]) (by kernel_rfl) (by simp) ?_
                          refine Rb.AllT.cons (o := ⟨some 168, .buildSlice 22 1 #[(0, .tmp 167)], 22, "law.go:201", #[⟨15, .data⟩], none⟩) rfl (fun K hK => ?_) (Rb.AllT.nil)
                          · go_simp
                            try go_wp2_with fail
                            refine hK.out _ _ ?_ (fun hH3 => ?_)
                            · (try dsimp only); exact KSN.out _ (HQ7.out.1.ch.tr (Ch.of_bel (by repeat (first | exact Bel.rf | with_reducible refine Bel.drwN ?_ _ | with_reducible refine Bel.drw ?_ | with_reducible refine Bel.al ?_ _)))) (HQ7.out.2.bel (by repeat (first | exact Bel.rf | with_reducible refine Bel.drwN ?_ _ | with_reducible refine Bel.drw ?_ | with_reducible refine Bel.al ?_ _)))
                            clear hK K hH2
                            try simp only [Act.put, setIfInBounds_toArray, set_cons_zero, set_cons_succ]
                            refine Rb.till_ready (rs := [17]) (by kernel_rfl) (by simp) ?_
                            refine Rb.AllT.cons (o := ⟨some 169, .call { callee := Callee.builtin Builtin.append, args := #[.tmp 166, .tmp 168], argTypes := #[22, 22] }, 22, "law.go:201", #[⟨14, .data⟩, ⟨16, .data⟩, ⟨12, .chain⟩], none⟩) rfl (fun K hK => ?_) (Rb.AllT.nil)
                            · refine step_app _ rfl (.tmp 166) (.tmp 168) rfl (vn.heap.size + 1) v p B rfl (own_bel HQ7.out.1.ov (by repeat (first | exact Bel.rf | with_reducible refine Bel.drwN ?_ _ | with_reducible refine Bel.drw ?_ | with_reducible refine Bel.al ?_ _))) ⟨x7.heap.size, 0, none⟩ 1 1 [(kq : Int)] rfl (zi_bk (L := [(kq : Int)]) ((by repeat (first | (refine Bk.nq _ _ _ ?_; simp; done) | with_reducible refine Bk.drwN ?_ _ | with_reducible refine Bk.drw ?_ | with_reducible refine Bk.al ?_ _)) : Bk _ x7.heap.size 3 (zs [(kq : Int)]).toArray) 1 rfl) HI1.out (by have := HQ7.out.1.sz; simp; omega) ?_; intro v12 x12 h12 hg12 ha12; obtain ⟨A12, c12, hv12, _⟩ := own_any h12; subst hv12; have HQ12 : Hid (Wq g (vn.heap.size + 1) vn x12 (.slice A7 (p + 1) c7) (.slice A12 (p + 1) c12) (p + 1) (p + 1) (S ++ [x]) (B ++ [(kq : Int)]) ∧ Bk x12 vn.heap.size 32 #[u, v]) := ⟨((HQ7.out.1.up (by repeat (first | exact Bel.rf | with_reducible refine Bel.drwN ?_ _ | with_reducible refine Bel.drw ?_ | with_reducible refine Bel.al ?_ _))).sx.ax h12 hg12 ha12).sx, bk_grw (HQ7.out.2.bel (by repeat (first | exact Bel.rf | with_reducible refine Bel.drwN ?_ _ | with_reducible refine Bel.drw ?_ | with_reducible refine Bel.al ?_ _))) hg12 (fun e => by have := (HQ7.out.1.ov.lt _ e).1; omega)⟩; have y0 := HQ12.out.2.cell 0; have y1 := HQ12.out.2.cell 1; have z0 := HQ12.out.2.fr 0; have z1 := HQ12.out.2.fr 1; simp only [getElem?_toArray, getElem?_cons_zero, getElem?_cons_succ] at y0 y1; clear h12 hg12 ha12
                              try go_wp2_with fail
                              refine hK.out _ _ ?_ (fun hH4 => ?_)
                              · (try dsimp only); exact KSN.out _ (HQ12.out.1.ch.tr (Ch.of_bel (by repeat (first | exact Bel.rf | with_reducible refine Bel.drwN ?_ _ | with_reducible refine Bel.drw ?_ | with_reducible refine Bel.al ?_ _)))) (HQ12.out.2.bel (by repeat (first | exact Bel.rf | with_reducible refine Bel.drwN ?_ _ | with_reducible refine Bel.drw ?_ | with_reducible refine Bel.al ?_ _)))
                              clear hK K hH3
                              try simp only [Act.put, setIfInBounds_toArray, set_cons_zero, set_cons_succ]
                              refine Rb.till_ready (rs := [19]) (by kernel_rfl) (by simp) ?_
                              refine Rb.AllT.past (o := ⟨none, .store 22 (.tmp 170) (.tmp 164), 0, "law.go:201", #[⟨18, .data⟩, ⟨12, .data⟩, ⟨17, .chain⟩, ⟨0, .phase⟩, ⟨1, .phase⟩, ⟨2, .phase⟩, ⟨3, .phase⟩, ⟨4, .phase⟩, ⟨5, .phase⟩, ⟨6, .phase⟩, ⟨7, .phase⟩, ⟨8, .phase⟩, ⟨9, .phase⟩, ⟨10, .phase⟩, ⟨11, .phase⟩, ⟨12, .phase⟩, ⟨13, .phase⟩, ⟨14, .phase⟩, ⟨15, .textOnly Departure.lateStores⟩, ⟨16, .textOnly Departure.lateStores⟩, ⟨17, .textOnly Departure.lateStoresUnsure⟩], none⟩) rfl (by kernel_rfl) (fun K hK => ?_) (Rb.AllT.nil)
                              · go_simp
                                try go_wp2_with fail
                                refine hK.out _ _ trivial (fun hH5 => ?_)
                                clear hK K hH4
                                try simp only [Act.put, setIfInBounds_toArray, set_cons_zero, set_cons_succ]
                                refine Rb.till_free (i := 20) (oi := ⟨some 171, .fieldAddr 32 (.tmp 15) 1, 0, "law.go:201", #[⟨0, .phase⟩, ⟨1, .phase⟩, ⟨2, .phase⟩, ⟨3, .phase⟩, ⟨4, .phase⟩, ⟨5, .phase⟩, ⟨6, .phase⟩, ⟨7, .phase⟩, ⟨8, .phase⟩, ⟨9, .phase⟩, ⟨10, .phase⟩, ⟨11, .phase⟩, ⟨12, .phase⟩, ⟨13, .phase⟩, ⟨14, .phase⟩, ⟨15, .phase⟩, ⟨16, .phase⟩, ⟨17, .phase⟩, ⟨18, .phase⟩, ⟨19, .phase⟩], none⟩) (v := ?_) rfl (by kernel_rfl) (by kernel_rfl) (by kernel_rfl) (fun _ _ _ h => h) (by decide) (Or.inl ⟨by kernel_rfl, ?_⟩) (fun h => absurd h (by decide)) ?_
                                rotate_left
                                · (intro w hSw; clear hSw; go_simp; try with_reducible rfl)
                                try simp only [Act.put, setIfInBounds_toArray, set_cons_zero, set_cons_succ]
                                refine Rb.till_ready (rs := [21]) (by kernel_rfl) (by simp) ?_
                                refine Rb.AllT.past (o := ⟨none, .store 22 (.tmp 171) (.tmp 169), 0, "law.go:201", #[⟨20, .data⟩, ⟨17, .data⟩, ⟨19, .chain⟩, ⟨0, .phase⟩, ⟨1, .phase⟩, ⟨2, .phase⟩, ⟨3, .phase⟩, ⟨4, .phase⟩, ⟨5, .phase⟩, ⟨6, .phase⟩, ⟨7, .phase⟩, ⟨8, .phase⟩, ⟨9, .phase⟩, ⟨10, .phase⟩, ⟨11, .phase⟩, ⟨12, .phase⟩, ⟨13, .phase⟩, ⟨14, .phase⟩, ⟨15, .phase⟩, ⟨16, .phase⟩, ⟨17, .phase⟩, ⟨18, .phase⟩, ⟨19, .phase⟩], none⟩) rfl (by kernel_rfl) (fun K hK => ?_) (Rb.AllT.nil)
                                · go_simp
                                  try go_wp2_with fail
                                  refine hK.out _ _ trivial (fun hH6 => ?_)
                                  clear hK K hH5
                                  try simp only [Act.put, setIfInBounds_toArray, set_cons_zero, set_cons_succ]
                                  refine Rb.till_done (by kernel_rfl) ?_ _
                                  refine NoPanic.normal ?_
                                  have HFL : Hid (Wq g (vn.heap.size + 1) vn ((x12.setCell ⟨vn.heap.size, 0, none⟩ (.slice A7 (p + 1) c7)).setCell ⟨vn.heap.size, 1, none⟩ (.slice A12 (p + 1) c12)) (.slice A7 (p + 1) c7) (.slice A12 (p + 1) c12) (p + 1) (p + 1) (nS F0 kq mo (p + 1)) (nB kq mo (p + 1)) ∧ Bk ((x12.setCell ⟨vn.heap.size, 0, none⟩ (.slice A7 (p + 1) c7)).setCell ⟨vn.heap.size, 1, none⟩ (.slice A12 (p + 1) c12)) vn.heap.size 32 #[.slice A7 (p + 1) c7, .slice A12 (p + 1) c12]) := by
                                    show _ ∧ _
                                    rw [(HSN.out _ HYN.out).1, (HSN.out _ HYN.out).2, show 4 - kq = 0 by omega, Int.pow_zero, Int.ediv_one]
                                    exact ⟨(HQ12.out.1.st (Nat.le_refl _) (Nat.lt_succ_self _) HGN.out _ _).st (Nat.le_refl _) (Nat.lt_succ_self _) HGN.out _ _, (HQ12.out.2.st 0 _).st 1 _⟩
                                  go_wp2_with fail
                                  go_roundw
                                  case rel => exact ⟨p + 1, _, _, _, rfl, by omega, by go_num, HFL.out.1, HFL.out.2⟩
                                  case measure => simp [intOf]; omega
                        · go_simp
                          try go_wp2_with fail
                          refine hK.out _ _ ?_ (fun hH2 => ?_)
                          · (try dsimp only); exact KSN.out _ (HQ6.out.1.ch.tr (Ch.of_bel (by repeat (first | exact Bel.rf | with_reducible refine Bel.drwN ?_ _ | with_reducible refine Bel.drw ?_ | with_reducible refine Bel.al ?_ _)))) (HQ6.out.2.bel (by repeat (first | exact Bel.rf | with_reducible refine Bel.drwN ?_ _ | with_reducible refine Bel.drw ?_ | with_reducible refine Bel.al ?_ _)))
                          clear hK K hH1
                          try simp only [Act.put, setIfInBounds_toArray, set_cons_zero, set_cons_succ]
                          refine Rb.till_ready (rs := [12]) (by kernel_rfl) (by simp) ?_
                          refine Rb.AllT.cons (o := ⟨some 164, .call { callee := Callee.builtin Builtin.append, args := #[.tmp 153, .tmp 163], argTypes := #[22, 22] }, 22, "law.go:201", #[⟨1, .data⟩, ⟨11, .data⟩], none⟩) rfl (fun K hK => ?_) (Rb.AllT.nil)
                          · refine step_app _ rfl (.tmp 153) (.tmp 163) rfl (vn.heap.size + 1) u p S rfl (own_bel HQ6.out.1.ou (by repeat (first | exact Bel.rf | with_reducible refine Bel.drwN ?_ _ | with_reducible refine Bel.drw ?_ | with_reducible refine Bel.al ?_ _))) ⟨wi.heap.size, 0, none⟩ 1 1 [x] rfl (zi_bk (L := [x]) ((by repeat (first | (refine Bk.nq _ _ _ ?_; simp; done) | with_reducible refine Bk.drwN ?_ _ | with_reducible refine Bk.drw ?_ | with_reducible refine Bk.al ?_ _)) : Bk _ wi.heap.size 3 (zs [x]).toArray) 1 rfl) HI1.out (by have := HQ6.out.1.sz; simp; omega) ?_; intro v7 x7 h7 hg7 ha7; obtain ⟨A7, c7, hv7, _⟩ := own_any h7; subst hv7; have HQ7 : Hid (Wq g (vn.heap.size + 1) vn x7 (.slice A7 (p + 1) c7) v (p + 1) p (S ++ [x]) B ∧ Bk x7 vn.heap.size 32 #[u, v]) := ⟨(HQ6.out.1.up (by repeat (first | exact Bel.rf | with_reducible refine Bel.drwN ?_ _ | with_reducible refine Bel.drw ?_ | with_reducible refine Bel.al ?_ _))).ax h7 hg7 ha7, bk_grw (HQ6.out.2.bel (by repeat (first | exact Bel.rf | with_reducible refine Bel.drwN ?_ _ | with_reducible refine Bel.drw ?_ | with_reducible refine Bel.al ?_ _))) hg7 (fun e => by have := (HQ6.out.1.ou.lt _ e).1; omega)⟩; have HX7 : Hid (Bk x7 (wi.heap.size + 1) 3 (zs [(kq : Int)]).toArray) := bk_grw ((by repeat (first | (refine Bk.nq _ _ _ ?_; simp; done) | with_reducible refine Bk.drwN ?_ _ | with_reducible refine Bk.drw ?_ | with_reducible refine Bk.al ?_ _)) : Bk _ (wi.heap.size + 1) 3 (zs [(kq : Int)]).toArray) hg7 (fun e => by have := HBU.out _ e; omega); clear h7 hg7 ha7
                            try go_wp2_with fail
                            refine hK.out _ _ ?_ (fun hH3 => ?_)
                            · (try dsimp only); exact KSN.out _ (HQ7.out.1.ch.tr (Ch.of_bel (by repeat (first | exact Bel.rf | with_reducible refine Bel.drwN ?_ _ | with_reducible refine Bel.drw ?_ | with_reducible refine Bel.al ?_ _)))) (HQ7.out.2.bel (by repeat (first | exact Bel.rf | with_reducible refine Bel.drwN ?_ _ | with_reducible refine Bel.drw ?_ | with_reducible refine Bel.al ?_ _)))
                            clear hK K hH2
                            try simp only [Act.put, setIfInBounds_toArray, set_cons_zero, set_cons_succ]
                            refine Rb.till_take (i := 18) (oi := ⟨some 170, .fieldAddr 32 (.tmp 15) 0, 0, "law.go:201", #[⟨0, .phase⟩, ⟨1, .phase⟩, ⟨2, .phase⟩, ⟨3, .phase⟩, ⟨4, .phase⟩, ⟨5, .phase⟩, ⟨6, .phase⟩, ⟨7, .phase⟩, ⟨8, .phase⟩, ⟨9, .phase⟩, ⟨10, .phase⟩, ⟨11, .phase⟩, ⟨12, .phase⟩, ⟨13, .phase⟩, ⟨14, .phase⟩, ⟨15, .textOnly Departure.lateStores⟩, ⟨16, .textOnly Departure.lateStores⟩, ⟨17, .textOnly Departure.lateStoresUnsure⟩], none⟩) (v := ?_) rfl (by kernel_rfl) (by kernel_rfl) (by kernel_rfl) (fun _ _ _ h => h) (by decide) opN rfl (by kernel_rfl) (by kernel_rfl) (Or.inl ⟨by kernel_rfl, ?_⟩) (by assumption) ?_
                            rotate_left
                            · (intro w hSw; (try dsimp only at hSw); obtain ⟨d1, d2, d3, d4⟩ := hSw; go_simp; try with_reducible rfl)
                            try simp only [Act.put, setIfInBounds_toArray, set_cons_zero, set_cons_succ]
                            refine Rb.till_ready (rs := [17]) (by kernel_rfl) (by simp) ?_
                            refine Rb.AllT.cons (o := ⟨some 169, .call { callee := Callee.builtin Builtin.append, args := #[.tmp 166, .tmp 168], argTypes := #[22, 22] }, 22, "law.go:201", #[⟨14, .data⟩, ⟨16, .data⟩, ⟨12, .chain⟩], none⟩) rfl (fun K hK => ?_) (Rb.AllT.nil)
                            · refine step_app _ rfl (.tmp 166) (.tmp 168) rfl (vn.heap.size + 1) v p B rfl (own_bel HQ7.out.1.ov (by repeat (first | exact Bel.rf | with_reducible refine Bel.drwN ?_ _ | with_reducible refine Bel.drw ?_ | with_reducible refine Bel.al ?_ _))) ⟨wi.heap.size + 1, 0, none⟩ 1 1 [(kq : Int)] rfl (zi_bk (L := [(kq : Int)]) (HX7.out.bel (by repeat (first | exact Bel.rf | with_reducible refine Bel.drwN ?_ _ | with_reducible refine Bel.drw ?_ | with_reducible refine Bel.al ?_ _))) 1 rfl) HI1.out (by have := HQ7.out.1.sz; simp; omega) ?_; intro v12 x12 h12 hg12 ha12; obtain ⟨A12, c12, hv12, _⟩ := own_any h12; subst hv12; have HQ12 : Hid (Wq g (vn.heap.size + 1) vn x12 (.slice A7 (p + 1) c7) (.slice A12 (p + 1) c12) (p + 1) (p + 1) (S ++ [x]) (B ++ [(kq : Int)]) ∧ Bk x12 vn.heap.size 32 #[u, v]) := ⟨((HQ7.out.1.up (by repeat (first | exact Bel.rf | with_reducible refine Bel.drwN ?_ _ | with_reducible refine Bel.drw ?_ | with_reducible refine Bel.al ?_ _))).sx.ax h12 hg12 ha12).sx, bk_grw (HQ7.out.2.bel (by repeat (first | exact Bel.rf | with_reducible refine Bel.drwN ?_ _ | with_reducible refine Bel.drw ?_ | with_reducible refine Bel.al ?_ _))) hg12 (fun e => by have := (HQ7.out.1.ov.lt _ e).1; omega)⟩; have y0 := HQ12.out.2.cell 0; have y1 := HQ12.out.2.cell 1; have z0 := HQ12.out.2.fr 0; have z1 := HQ12.out.2.fr 1; simp only [getElem?_toArray, getElem?_cons_zero, getElem?_cons_succ] at y0 y1; clear h12 hg12 ha12
                              try go_wp2_with fail
                              refine hK.out _ _ ?_ (fun hH4 => ?_)
                              · (try dsimp only); exact KSN.out _ (HQ12.out.1.ch.tr (Ch.of_bel (by repeat (first | exact Bel.rf | with_reducible refine Bel.drwN ?_ _ | with_reducible refine Bel.drw ?_ | with_reducible refine Bel.al ?_ _)))) (HQ12.out.2.bel (by repeat (first | exact Bel.rf | with_reducible refine Bel.drwN ?_ _ | with_reducible refine Bel.drw ?_ | with_reducible refine Bel.al ?_ _)))
                              clear hK K hH3
                              try simp only [Act.put, setIfInBounds_toArray, set_cons_zero, set_cons_succ]
                              refine Rb.till_ready (rs := [19]) (by kernel_rfl) (by simp) ?_
                              refine Rb.AllT.past (o := ⟨none, .store 22 (.tmp 170) (.tmp 164), 0, "law.go:201", #[⟨18, .data⟩, ⟨12, .data⟩, ⟨17, .chain⟩, ⟨0, .phase⟩, ⟨1, .phase⟩, ⟨2, .phase⟩, ⟨3, .phase⟩, ⟨4, .phase⟩, ⟨5, .phase⟩, ⟨6, .phase⟩, ⟨7, .phase⟩, ⟨8, .phase⟩, ⟨9, .phase⟩, ⟨10, .phase⟩, ⟨11, .phase⟩, ⟨12, .phase⟩, ⟨13, .phase⟩, ⟨14, .phase⟩, ⟨15, .textOnly Departure.lateStores⟩, ⟨16, .textOnly Departure.lateStores⟩, ⟨17, .textOnly Departure.lateStoresUnsure⟩], none⟩) rfl (by kernel_rfl) (fun K hK => ?_) (Rb.AllT.nil)
                              · go_simp
                                try go_wp2_with fail
                                refine hK.out _ _ trivial (fun hH5 => ?_)
                                clear hK K hH4
                                try simp only [Act.put, setIfInBounds_toArray, set_cons_zero, set_cons_succ]
                                refine Rb.till_free (i := 20) (oi := ⟨some 171, .fieldAddr 32 (.tmp 15) 1, 0, "law.go:201", #[⟨0, .phase⟩, ⟨1, .phase⟩, ⟨2, .phase⟩, ⟨3, .phase⟩, ⟨4, .phase⟩, ⟨5, .phase⟩, ⟨6, .phase⟩, ⟨7, .phase⟩, ⟨8, .phase⟩, ⟨9, .phase⟩, ⟨10, .phase⟩, ⟨11, .phase⟩, ⟨12, .phase⟩, ⟨13, .phase⟩, ⟨14, .phase⟩, ⟨15, .phase⟩, ⟨16, .phase⟩, ⟨17, .phase⟩, ⟨18, .phase⟩, ⟨19, .phase⟩], none⟩) (v := ?_) rfl (by kernel_rfl) (by kernel_rfl) (by kernel_rfl) (fun _ _ _ h => h) (by decide) (Or.inl ⟨by kernel_rfl, ?_⟩) (fun h => absurd h (by decide)) ?_
                                rotate_left
                                · (intro w hSw; clear hSw; go_simp; try with_reducible rfl)
                                try simp only [Act.put, setIfInBounds_toArray, set_cons_zero, set_cons_succ]
                                refine Rb.till_ready (rs := [21]) (by kernel_rfl) (by simp) ?_
                                refine Rb.AllT.past (o := ⟨none, .store 22 (.tmp 171) (.tmp 169), 0, "law.go:201", #[⟨20, .data⟩, ⟨17, .data⟩, ⟨19, .chain⟩, ⟨0, .phase⟩, ⟨1, .phase⟩, ⟨2, .phase⟩, ⟨3, .phase⟩, ⟨4, .phase⟩, ⟨5, .phase⟩, ⟨6, .phase⟩, ⟨7, .phase⟩, ⟨8, .phase⟩, ⟨9, .phase⟩, ⟨10, .phase⟩, ⟨11, .phase⟩, ⟨12, .phase⟩, ⟨13, .phase⟩, ⟨14, .phase⟩, ⟨15, .phase⟩, ⟨16, .phase⟩, ⟨17, .phase⟩, ⟨18, .phase⟩, ⟨19, .phase⟩], none⟩) rfl (by kernel_rfl) (fun K hK => ?_) (Rb.AllT.nil)
                                · go_simp
                                  try go_wp2_with fail
                                  refine hK.out _ _ trivial (fun hH6 => ?_)
                                  clear hK K hH5
                                  try simp only [Act.put, setIfInBounds_toArray, set_cons_zero, set_cons_succ]
                                  refine Rb.till_done (by kernel_rfl) ?_ _
                                  refine NoPanic.normal ?_
                                  have HFL : Hid (Wq g (vn.heap.size + 1) vn ((x12.setCell ⟨vn.heap.size, 0, none⟩ (.slice A7 (p + 1) c7)).setCell ⟨vn.heap.size, 1, none⟩ (.slice A12 (p + 1) c12)) (.slice A7 (p + 1) c7) (.slice A12 (p + 1) c12) (p + 1) (p + 1) (nS F0 kq mo (p + 1)) (nB kq mo (p + 1)) ∧ Bk ((x12.setCell ⟨vn.heap.size, 0, none⟩ (.slice A7 (p + 1) c7)).setCell ⟨vn.heap.size, 1, none⟩ (.slice A12 (p + 1) c12)) vn.heap.size 32 #[.slice A7 (p + 1) c7, .slice A12 (p + 1) c12]) := by
                                    show _ ∧ _
                                    rw [(HSN.out _ HYN.out).1, (HSN.out _ HYN.out).2, show 4 - kq = 0 by omega, Int.pow_zero, Int.ediv_one]
                                    exact ⟨(HQ12.out.1.st (Nat.le_refl _) (Nat.lt_succ_self _) HGN.out _ _).st (Nat.le_refl _) (Nat.lt_succ_self _) HGN.out _ _, (HQ12.out.2.st 0 _).st 1 _⟩
                                  go_wp2_with fail
                                  go_roundw
                                  case rel => exact ⟨p + 1, _, _, _, rfl, by omega, by go_num, HFL.out.1, HFL.out.2⟩
                                  case measure => simp [intOf]; omega
                      · go_simp
                        try go_wp2_with fail
                        refine hK.out _ _ ?_ (fun hH1 => ?_)
                        · (try dsimp only); exact KSN.out _ (HQ6.out.1.ch.tr (Ch.of_bel (by repeat (first | exact Bel.rf | with_reducible refine Bel.drwN ?_ _ | with_reducible refine Bel.drw ?_ | with_reducible refine Bel.al ?_ _)))) (HQ6.out.2.bel (by repeat (first | exact Bel.rf | with_reducible refine Bel.drwN ?_ _ | with_reducible refine Bel.drw ?_ | with_reducible refine Bel.al ?_ _)))
                        clear hK K hH0
                        try simp only [Act.put, setIfInBounds_toArray, set_cons_zero, set_cons_succ]
                        refine Rb.till_ready (rs := [11]) (by kernel_rfl) (by simp) ?_
                        refine Rb.AllT.cons (o := ⟨some 163, .buildSlice 22 1 #[(0, .tmp 162)], 22, "law.go:201", #[⟨10, .data⟩], none⟩) rfl (fun K hK => ?_) (Rb.AllT.nil)
                        · go_simp
                          try go_wp2_with fail
                          refine hK.out _ _ ?_ (fun hH2 => ?_)
                          · (try dsimp only); exact KSN.out _ (HQ6.out.1.ch.tr (Ch.of_bel (by repeat (first | exact Bel.rf | with_reducible refine Bel.drwN ?_ _ | with_reducible refine Bel.drw ?_ | with_reducible refine Bel.al ?_ _)))) (HQ6.out.2.bel (by repeat (first | exact Bel.rf | with_reducible refine Bel.drwN ?_ _ | with_reducible refine Bel.drw ?_ | with_reducible refine Bel.al ?_ _)))
                          clear hK K hH1
                          try simp only [Act.put, setIfInBounds_toArray, set_cons_zero, set_cons_succ]
                          refine Rb.till_ready (rs := [12]) (by kernel_rfl) (by simp) ?_
                          refine Rb.AllT.cons (o := ⟨some 164, .call { callee := Callee.builtin Builtin.append, args := #[.tmp 153, .tmp 163], argTypes := #[22, 22] }, 22, "law.go:201", #[⟨1, .data⟩, ⟨11, .data⟩], none⟩) rfl (fun K hK => ?_) (Rb.AllT.nil)
                          · refine step_app _ rfl (.tmp 153) (.tmp 163) rfl (vn.heap.size + 1) u p S rfl (own_bel HQ6.out.1.ou (by repeat (first | exact Bel.rf | with_reducible refine Bel.drwN ?_ _ | with_reducible refine Bel.drw ?_ | with_reducible refine Bel.al ?_ _))) ⟨wi.heap.size + 1, 0, none⟩ 1 1 [x] rfl (zi_bk (L := [x]) ((by repeat (first | (refine Bk.nq _ _ _ ?_; simp; done) | with_reducible refine Bk.drwN ?_ _ | with_reducible refine Bk.drw ?_ | with_reducible refine Bk.al ?_ _)) : Bk _ (wi.heap.size + 1) 3 (zs [x]).toArray) 1 rfl) HI1.out (by have := HQ6.out.1.sz; simp; omega) ?_; intro v7 x7 h7 hg7 ha7; obtain ⟨A7, c7, hv7, _⟩ := own_any h7; subst hv7; have HQ7 : Hid (Wq g (vn.heap.size + 1) vn x7 (.slice A7 (p + 1) c7) v (p + 1) p (S ++ [x]) B ∧ Bk x7 vn.heap.size 32 #[u, v]) := ⟨(HQ6.out.1.up (by repeat (first | exact Bel.rf | with_reducible refine Bel.drwN ?_ _ | with_reducible refine Bel.drw ?_ | with_reducible refine Bel.al ?_ _))).ax h7 hg7 ha7, bk_grw (HQ6.out.2.bel (by repeat (first | exact Bel.rf | with_reducible refine Bel.drwN ?_ _ | with_reducible refine Bel.drw ?_ | with_reducible refine Bel.al ?_ _))) hg7 (fun e => by have := (HQ6.out.1.ou.lt _ e).1; omega)⟩; have HX7 : Hid (Bk x7 wi.heap.size 3 (zs [(kq : Int)]).toArray) := bk_grw ((by repeat (first | (refine Bk.nq _ _ _ ?_; simp; done) | with_reducible refine Bk.drwN ?_ _ | with_reducible refine Bk.drw ?_ | with_reducible refine Bk.al ?_ _)) : Bk _ wi.heap.size 3 (zs [(kq : Int)]).toArray) hg7 (fun e => by have := HBU.out _ e; omega); clear h7 hg7 ha7
                            try go_wp2_with fail
                            refine hK.out _ _ ?_ (fun hH3 => ?_)
                            · (try dsimp only); exact KSN.out _ (HQ7.out.1.ch.tr (Ch.of_bel (by repeat (first | exact Bel.rf | with_reducible refine Bel.drwN ?_ _ | with_reducible refine Bel.drw ?_ | with_reducible refine Bel.al ?_ _)))) (HQ7.out.2.bel (by repeat (first | exact Bel.rf | with_reducible refine Bel.drwN ?_ _ | with_reducible refine Bel.drw ?_ | with_reducible refine Bel.al ?_ _)))
                            clear hK K hH2
                            try simp only [Act.put, setIfInBounds_toArray, set_cons_zero, set_cons_succ]
                            refine Rb.till_take (i := 18) (oi := ⟨some 170, .fieldAddr 32 (.tmp 15) 0, 0, "law.go:201", #[⟨0, .phase⟩, ⟨1, .phase⟩, ⟨2, .phase⟩, ⟨3, .phase⟩, ⟨4, .phase⟩, ⟨5, .phase⟩, ⟨6, .phase⟩, ⟨7, .phase⟩, ⟨8, .phase⟩, ⟨9, .phase⟩, ⟨10, .phase⟩, ⟨11, .phase⟩, ⟨12, .phase⟩, ⟨13, .phase⟩, ⟨14, .phase⟩, ⟨15, .textOnly Departure.lateStores⟩, ⟨16, .textOnly Departure.lateStores⟩, ⟨17, .textOnly Departure.lateStoresUnsure⟩], none⟩) (v := ?_) rfl (by kernel_rfl) (by kernel_rfl) (by kernel_rfl) (fun _ _ _ h => h) (by decide) opN rfl (by kernel_rfl) (by kernel_rfl) (Or.inl ⟨by kernel_rfl, ?_⟩) (by assumption) ?_
                            rotate_left
                            · (intro w hSw; (try dsimp only at hSw); obtain ⟨d1, d2, d3, d4⟩ := hSw; go_simp; try with_reducible rfl)
                            try simp only [Act.put, setIfInBounds_toArray, set_cons_zero, set_cons_succ]
                            refine Rb.till_ready (rs := [17]) (by kernel_rfl) (by simp) ?_
                            refine Rb.AllT.cons (o := ⟨some 169, .call { callee := Callee.builtin Builtin.append, args := #[.tmp 166, .tmp 168], argTypes := #[22, 22] }, 22, "law.go:201", #[⟨14, .data⟩, ⟨16, .data⟩, ⟨12, .chain⟩], none⟩) rfl (fun K hK => ?_) (Rb.AllT.nil)
                            · refine step_app _ rfl (.tmp 166) (.tmp 168) rfl (vn.heap.size + 1) v p B rfl (own_bel HQ7.out.1.ov (by repeat (first | exact Bel.rf | with_reducible refine Bel.drwN ?_ _ | with_reducible refine Bel.drw ?_ | with_reducible refine Bel.al ?_ _))) ⟨wi.heap.size, 0, none⟩ 1 1 [(kq : Int)] rfl (zi_bk (L := [(kq : Int)]) (HX7.out.bel (by repeat (first | exact Bel.rf | with_reducible refine Bel.drwN ?_ _ | with_reducible refine Bel.drw ?_ | with_reducible refine Bel.al ?_ _))) 1 rfl) HI1.out (by have := HQ7.out.1.sz; simp; omega) ?_; intro v12 x12 h12 hg12 ha12; obtain ⟨A12, c12, hv12, _⟩ := own_any h12; subst hv12; have HQ12 : Hid (Wq g (vn.heap.size + 1) vn x12 (.slice A7 (p + 1) c7) (.slice A12 (p + 1) c12) (p + 1) (p + 1) (S ++ [x]) (B ++ [(kq : Int)]) ∧ Bk x12 vn.heap.size 32 #[u, v]) := ⟨((HQ7.out.1.up (by repeat (first | exact Bel.rf | with_reducible refine Bel.drwN ?_ _ | with_reducible refine Bel.drw ?_ | with_reducible refine Bel.al ?_ _))).sx.ax h12 hg12 ha12).sx, bk_grw (HQ7.out.2.bel (by repeat (first | exact Bel.rf | with_reducible refine Bel.drwN ?_ _ | with_reducible refine Bel.drw ?_ | with_reducible refine Bel.al ?_ _))) hg12 (fun e => by have := (HQ7.out.1.ov.lt _ e).1; omega)⟩; have y0 := HQ12.out.2.cell 0; have y1 := HQ12.out.2.cell 1; have z0 := HQ12.out.2.fr 0; have z1 := HQ12.out.2.fr 1; simp only [getElem?_toArray, getElem?_cons_zero, getElem?_cons_succ] at y0 y1; clear h12 hg12 ha12
                              try go_wp2_with fail
                              refine hK.out _ _ ?_ (fun hH4 => ?_)
                              · (try dsimp only); exact KSN.out _ (HQ12.out.1.ch.tr (Ch.of_bel (by repeat (first | exact Bel.rf | with_reducible refine Bel.drwN ?_ _ | with_reducible refine Bel.drw ?_ | with_reducible refine Bel.al ?_ _)))) (HQ12.out.2.bel (by repeat (first | exact Bel.rf | with_reducible refine Bel.drwN ?_ _ | with_reducible refine Bel.drw ?_ | with_reducible refine Bel.al ?_ _)))
                              clear hK K hH3
                              try simp only [Act.put, setIfInBounds_toArray, set_cons_zero, set_cons_succ]
                              refine Rb.till_ready (rs := [19]) (by kernel_rfl) (by simp) ?_
                              refine Rb.AllT.past (o := ⟨none, .store 22 (.tmp 170) (.tmp 164), 0, "law.go:201", #[⟨18, .data⟩, ⟨12, .data⟩, ⟨17, .chain⟩, ⟨0, .phase⟩, ⟨1, .phase⟩, ⟨2, .phase⟩, ⟨3, .phase⟩, ⟨4, .phase⟩, ⟨5, .phase⟩, ⟨6, .phase⟩, ⟨7, .phase⟩, ⟨8, .phase⟩, ⟨9, .phase⟩, ⟨10, .phase⟩, ⟨11, .phase⟩, ⟨12, .phase⟩, ⟨13, .phase⟩, ⟨14, .phase⟩, ⟨15, .textOnly Departure.lateStores⟩, ⟨16, .textOnly Departure.lateStores⟩, ⟨17, .textOnly Departure.lateStoresUnsure⟩], none⟩) rfl (by kernel_rfl) (fun K hK => ?_) (Rb.AllT.nil)
                              · go_simp
                                try go_wp2_with fail
                                refine hK.out _ _ trivial (fun hH5 => ?_)
                                clear hK K hH4
                                try simp only [Act.put, setIfInBounds_toArray, set_cons_zero, set_cons_succ]
                                refine Rb.till_free (i := 20) (oi := ⟨some 171, .fieldAddr 32 (.tmp 15) 1, 0, "law.go:201", #[⟨0, .phase⟩, ⟨1, .phase⟩, ⟨2, .phase⟩, ⟨3, .phase⟩, ⟨4, .phase⟩, ⟨5, .phase⟩, ⟨6, .phase⟩, ⟨7, .phase⟩, ⟨8, .phase⟩, ⟨9, .phase⟩, ⟨10, .phase⟩, ⟨11, .phase⟩, ⟨12, .phase⟩, ⟨13, .phase⟩, ⟨14, .phase⟩, ⟨15, .phase⟩, ⟨16, .phase⟩, ⟨17, .phase⟩, ⟨18, .phase⟩, ⟨19, .phase⟩], none⟩) (v := ?_) rfl (by kernel_rfl) (by kernel_rfl) (by kernel_rfl) (fun _ _ _ h => h) (by decide) (Or.inl ⟨by kernel_rfl, ?_⟩) (fun h => absurd h (by decide)) ?_
                                rotate_left
                                · (intro w hSw; clear hSw; go_simp; try with_reducible rfl)
                                try simp only [Act.put, setIfInBounds_toArray, set_cons_zero, set_cons_succ]
                                refine Rb.till_ready (rs := [21]) (by kernel_rfl) (by simp) ?_
                                refine Rb.AllT.past (o := ⟨none, .store 22 (.tmp 171) (.tmp 169), 0, "law.go:201", #[⟨20, .data⟩, ⟨17, .data⟩, ⟨19, .chain⟩, ⟨0, .phase⟩, ⟨1, .phase⟩, ⟨2, .phase⟩, ⟨3, .phase⟩, ⟨4, .phase⟩, ⟨5, .phase⟩, ⟨6, .phase⟩, ⟨7, .phase⟩, ⟨8, .phase⟩, ⟨9, .phase⟩, ⟨10, .phase⟩, ⟨11, .phase⟩, ⟨12, .phase⟩, ⟨13, .phase⟩, ⟨14, .phase⟩, ⟨15, .phase⟩, ⟨16, .phase⟩, ⟨17, .phase⟩, ⟨18, .phase⟩, ⟨19, .phase⟩], none⟩) rfl (by kernel_rfl) (fun K hK => ?_) (Rb.AllT.nil)
                                · go_simp
                                  try go_wp2_with fail
                                  refine hK.out _ _ trivial (fun hH6 => ?_)
                                  clear hK K hH5
                                  try simp only [Act.put, setIfInBounds_toArray, set_cons_zero, set_cons_succ]
                                  refine Rb.till_done (by kernel_rfl) ?_ _
                                  refine NoPanic.normal ?_
                                  have HFL : Hid (Wq g (vn.heap.size + 1) vn ((x12.setCell ⟨vn.heap.size, 0, none⟩ (.slice A7 (p + 1) c7)).setCell ⟨vn.heap.size, 1, none⟩ (.slice A12 (p + 1) c12)) (.slice A7 (p + 1) c7) (.slice A12 (p + 1) c12) (p + 1) (p + 1) (nS F0 kq mo (p + 1)) (nB kq mo (p + 1)) ∧ Bk ((x12.setCell ⟨vn.heap.size, 0, none⟩ (.slice A7 (p + 1) c7)).setCell ⟨vn.heap.size, 1, none⟩ (.slice A12 (p + 1) c12)) vn.heap.size 32 #[.slice A7 (p + 1) c7, .slice A12 (p + 1) c12]) := by
                                    show _ ∧ _
                                    rw [(HSN.out _ HYN.out).1, (HSN.out _ HYN.out).2, show 4 - kq = 0 by omega, Int.pow_zero, Int.ediv_one]
                                    exact ⟨(HQ12.out.1.st (Nat.le_refl _) (Nat.lt_succ_self _) HGN.out _ _).st (Nat.le_refl _) (Nat.lt_succ_self _) HGN.out _ _, (HQ12.out.2.st 0 _).st 1 _⟩
                                  go_wp2_with fail
                                  go_roundw
                                  case rel => exact ⟨p + 1, _, _, _, rfl, by omega, by go_num, HFL.out.1, HFL.out.2⟩
                                  case measure => simp [intOf]; omega
                · have pl : ¬ (p : Int) < (mo : Int) := by omega
                  have pl2 : decide ((p : Int) < (mo : Int)) = false := decide_eq_false pl
                  have pl3 : ¬ p < mo := by omega
                  have pl4 : decide (p < mo) = false := decide_eq_false pl3
                  have HYN : Hid (nb kq mo p = kq) := by show _ = _; unfold nb; rw [if_neg (by omega)]
                  have wsb : IntKind.i64.wrap (4 - (kq : Int)) = ((4 - kq : Nat) : Int) := by rw [IntWalk.i64_in _ (by have := HK4.out; omega)]; have := HK4.out; omega
                  as_aux_lemma =>
                    go_upto_region 26 with fail
                    refine wp_region_noPanic ?_
                    refine Rb.wp_region_till (S := fun W : World => W.cell? ⟨vn.heap.size, 0, none⟩ = some u ∧ W.cell? ⟨vn.heap.size, 1, none⟩ = some v ∧ W.cell? ⟨v2.heap.size + 1, 0, none⟩ = some (.slice (some sad) n sc) ∧ W.cell? (sad.add p) = some (.int .i64 x)) 19 (by kernel_rfl) ?_ (fun hH0 => ?_)
                    · (try dsimp only); exact KSN.out _ (HQ6.out.1.ch.tr (Ch.of_bel (by repeat (first | exact Bel.rf | with_reducible refine Bel.drwN ?_ _ | with_reducible refine Bel.drw ?_ | with_reducible refine Bel.al ?_ _)))) (HQ6.out.2.bel (by repeat (first | exact Bel.rf | with_reducible refine Bel.drwN ?_ _ | with_reducible refine Bel.drw ?_ | with_reducible refine Bel.al ?_ _)))
                    refine Rb.till_take (i := 0) (oi := ⟨some 152, .fieldAddr 32 (.tmp 15) 0, 0, "law.go:201", #[], none⟩) (v := ?_) rfl (by kernel_rfl) (by kernel_rfl) (by kernel_rfl) (fun _ _ _ h => h) (by decide) opN rfl (by kernel_rfl) (by kernel_rfl) (Or.inl ⟨by kernel_rfl, ?_⟩) (by assumption) ?_
                    rotate_left
                    · (intro w hSw; (try dsimp only at hSw); obtain ⟨d1, d2, d3, d4⟩ := hSw; go_simp; try with_reducible rfl)
                    try simp only [Act.put, setIfInBounds_toArray, set_cons_zero, set_cons_succ]
                    refine Rb.till_take (i := 1) (oi := ⟨some 153, .load 22 (.tmp 152), 22, "law.go:201", #[⟨0, .data⟩], none⟩) (v := ?_) rfl (by kernel_rfl) (by kernel_rfl) (by kernel_rfl) (fun _ _ _ h => h) (by decide) opN rfl (by kernel_rfl) (by kernel_rfl) (Or.inl ⟨by kernel_rfl, ?_⟩) (by assumption) ?_
                    rotate_left
                    · (intro w hSw; (try dsimp only at hSw); obtain ⟨d1, d2, d3, d4⟩ := hSw; go_simp; try with_reducible rfl)
                    try simp only [Act.put, setIfInBounds_toArray, set_cons_zero, set_cons_succ]
                    refine Rb.till_take (i := 2) (oi := ⟨some 154, .indexAddr 55 (.tmp 7) (.const (.int IntKind.i64 0)), 0, "law.go:201", #[], none⟩) (v := ?_) rfl (by kernel_rfl) (by kernel_rfl) (by kernel_rfl) (fun _ _ _ h => h) (by decide) opN rfl (by kernel_rfl) (by kernel_rfl) (Or.inl ⟨by kernel_rfl, ?_⟩) (by assumption) ?_
                    rotate_left
                    · (intro w hSw; (try dsimp only at hSw); obtain ⟨d1, d2, d3, d4⟩ := hSw; go_simp; try with_reducible rfl)
                    try simp only [Act.put, setIfInBounds_toArray, set_cons_zero, set_cons_succ]
                    refine Rb.till_take (i := 3) (oi := ⟨some 155, .fieldAddr 32 (.tmp 154) 0, 0, "law.go:201", #[⟨2, .data⟩], none⟩) (v := ?_) rfl (by kernel_rfl) (by kernel_rfl) (by kernel_rfl) (fun _ _ _ h => h) (by decide) opN rfl (by kernel_rfl) (by kernel_rfl) (Or.inl ⟨by kernel_rfl, ?_⟩) (by assumption) ?_
                    rotate_left
                    · (intro w hSw; (try dsimp only at hSw); obtain ⟨d1, d2, d3, d4⟩ := hSw; go_simp; try with_reducible rfl)
                    try simp only [Act.put, setIfInBounds_toArray, set_cons_zero, set_cons_succ]
                    refine Rb.till_take (i := 4) (oi := ⟨some 156, .load 22 (.tmp 155), 22, "law.go:201", #[⟨3, .data⟩], none⟩) (v := ?_) rfl (by kernel_rfl) (by kernel_rfl) (by kernel_rfl) (fun _ _ _ h => h) (by decide) opN rfl (by kernel_rfl) (by kernel_rfl) (Or.inl ⟨by kernel_rfl, ?_⟩) (by assumption) ?_
                    rotate_left
                    · (intro w hSw; (try dsimp only at hSw); obtain ⟨d1, d2, d3, d4⟩ := hSw; go_simp; try with_reducible rfl)
                    try simp only [Act.put, setIfInBounds_toArray, set_cons_zero, set_cons_succ]
                    refine Rb.till_take (i := 5) (oi := ⟨some 157, .move (.tmp 16), 3, "law.go:201", #[], none⟩) (v := ?_) rfl (by kernel_rfl) (by kernel_rfl) (by kernel_rfl) (fun _ _ _ h => h) (by decide) opN rfl (by kernel_rfl) (by kernel_rfl) (Or.inl ⟨by kernel_rfl, ?_⟩) (by assumption) ?_
                    rotate_left
                    · (intro w hSw; (try dsimp only at hSw); obtain ⟨d1, d2, d3, d4⟩ := hSw; go_simp; try with_reducible rfl)
                    try simp only [Act.put, setIfInBounds_toArray, set_cons_zero, set_cons_succ]
                    refine Rb.till_take (i := 6) (oi := ⟨some 158, .indexAddr 22 (.tmp 156) (.tmp 157), 0, "law.go:201", #[⟨4, .data⟩, ⟨5, .data⟩], none⟩) (v := ?_) rfl (by kernel_rfl) (by kernel_rfl) (by kernel_rfl) (fun _ _ _ h => h) (by decide) opN rfl (by kernel_rfl) (by kernel_rfl) (Or.inl ⟨by kernel_rfl, ?_⟩) (by assumption) ?_
                    rotate_left
                    · (intro w hSw; (try dsimp only at hSw); obtain ⟨d1, d2, d3, d4⟩ := hSw; go_simp; try with_reducible rfl)
                    try simp only [Act.put, setIfInBounds_toArray, set_cons_zero, set_cons_succ]
                    refine Rb.till_take (i := 7) (oi := ⟨some 159, .load 3 (.tmp 158), 3, "law.go:201", #[⟨6, .data⟩], none⟩) (v := ?_) rfl (by kernel_rfl) (by kernel_rfl) (by kernel_rfl) (fun _ _ _ h => h) (by decide) opN rfl (by kernel_rfl) (by kernel_rfl) (Or.inl ⟨by kernel_rfl, ?_⟩) (by assumption) ?_
                    rotate_left
                    · (intro w hSw; (try dsimp only at hSw); obtain ⟨d1, d2, d3, d4⟩ := hSw; go_simp; try with_reducible rfl)
                    try simp only [Act.put, setIfInBounds_toArray, set_cons_zero, set_cons_succ]
                    refine Rb.till_take (i := 8) (oi := ⟨some 160, .move (.tmp 17), 3, "law.go:201", #[], none⟩) (v := ?_) rfl (by kernel_rfl) (by kernel_rfl) (by kernel_rfl) (fun _ _ _ h => h) (by decide) opN rfl (by kernel_rfl) (by kernel_rfl) (Or.inl ⟨by kernel_rfl, ?_⟩) (by assumption) ?_
                    rotate_left
                    · (intro w hSw; (try dsimp only at hSw); obtain ⟨d1, d2, d3, d4⟩ := hSw; go_simp; try with_reducible rfl)
                    try simp only [Act.put, setIfInBounds_toArray, set_cons_zero, set_cons_succ]
                    refine Rb.till_take (i := 9) (oi := ⟨some 161, .binOp BinOp.sub 3 (.const (.int IntKind.i64 4)) (.tmp 160) 3, 3, "law.go:201", #[⟨8, .data⟩], none⟩) (v := ?_) rfl (by kernel_rfl) (by kernel_rfl) (by kernel_rfl) (fun _ _ _ h => h) (by decide) opN rfl (by kernel_rfl) (by kernel_rfl) (Or.inl ⟨by kernel_rfl, ?_⟩) (by assumption) ?_
                    rotate_left
                    · (intro w hSw; (try dsimp only at hSw); obtain ⟨d1, d2, d3, d4⟩ := hSw; go_simp; try with_reducible rfl)
                    try simp only [Act.put, setIfInBounds_toArray, set_cons_zero, set_cons_succ]
                    refine Rb.till_take (i := 10) (oi := ⟨some 162, .binOp BinOp.shr 3 (.tmp 159) (.tmp 161) 3, 3, "law.go:201", #[⟨7, .data⟩, ⟨9, .data⟩], none⟩) (v := ?_) rfl (by kernel_rfl) (by kernel_rfl) (by kernel_rfl) (fun _ _ _ h => h) (by decide) opN rfl (by kernel_rfl) (by kernel_rfl) (Or.inl ⟨by kernel_rfl, ?_⟩) (by assumption) ?_
                    rotate_left
                    · (intro w hSw; (try dsimp only at hSw); obtain ⟨d1, d2, d3, d4⟩ := hSw; go_simp; try with_reducible rfl)
                    try simp only [Act.put, setIfInBounds_toArray, set_cons_zero, set_cons_succ]
                    refine Rb.till_take (i := 13) (oi := ⟨some 165, .fieldAddr 32 (.tmp 15) 1, 0, "law.go:201", #[], none⟩) (v := ?_) rfl (by kernel_rfl) (by kernel_rfl) (by kernel_rfl) (fun _ _ _ h => h) (by decide) opN rfl (by kernel_rfl) (by kernel_rfl) (Or.inl ⟨by kernel_rfl, ?_⟩) (by assumption) ?_
                    rotate_left
                    · (intro w hSw; (try dsimp only at hSw); obtain ⟨d1, d2, d3, d4⟩ := hSw; go_simp; try with_reducible rfl)
                    try simp only [Act.put, setIfInBounds_toArray, set_cons_zero, set_cons_succ]
                    refine Rb.till_take (i := 14) (oi := ⟨some 166, .load 22 (.tmp 165), 22, "law.go:201", #[⟨13, .data⟩], none⟩) (v := ?_) rfl (by kernel_rfl) (by kernel_rfl) (by kernel_rfl) (fun _ _ _ h => h) (by decide) opN rfl (by kernel_rfl) (by kernel_rfl) (Or.inl ⟨by kernel_rfl, ?_⟩) (by assumption) ?_
                    rotate_left
                    · (intro w hSw; (try dsimp only at hSw); obtain ⟨d1, d2, d3, d4⟩ := hSw; go_simp; try with_reducible rfl)
                    try simp only [Act.put, setIfInBounds_toArray, set_cons_zero, set_cons_succ]
                    refine Rb.till_free (i := 15) (oi := ⟨some 167, .move (.tmp 17), 3, "law.go:201", #[], none⟩) (v := ?_) rfl (by kernel_rfl) (by kernel_rfl) (by kernel_rfl) (fun _ _ _ h => h) (by decide) (Or.inl ⟨by kernel_rfl, ?_⟩) (fun _ => by assumption) ?_
                    rotate_left
                    · (intro w hSw; clear hSw; go_simp; try with_reducible rfl)
                    try simp only [Act.put, setIfInBounds_toArray, set_cons_zero, set_cons_succ]
                    refine Rb.till_ready (rs := [11, 16]) (by kernel_rfl) (by simp) ?_
                    refine Rb.AllT.cons (o := ⟨some 163, .buildSlice 22 1 #[(0, .tmp 162)], 22, "law.go:201", #[⟨10, .data⟩], none⟩) rfl (fun K hK => ?_) (Rb.AllT.cons (o := ⟨some 168, .buildSlice 22 1 #[(0, .tmp 167)], 22, "law.go:201", #[⟨15, .data⟩], none⟩) rfl (fun K hK => ?_) (Rb.AllT.nil))
                    · go_simp
                      try go_wp2_with fail
                      refine hK.out _ _ ?_ (fun hH1 => ?_)
                      · (try dsimp only); exact KSN.out _ (HQ6.out.1.ch.tr (Ch.of_bel (by repeat (first | exact Bel.rf | with_reducible refine Bel.drwN ?_ _ | with_reducible refine Bel.drw ?_ | with_reducible refine Bel.al ?_ _)))) (HQ6.out.2.bel (by repeat (first | exact Bel.rf | with_reducible refine Bel.drwN ?_ _ | with_reducible refine Bel.drw ?_ | with_reducible refine Bel.al ?_ _)))
                      clear hK K hH0
                      try simp only [Act.put, setIfInBounds_toArray, set_cons_zero, set_cons_succ]
                      refine Rb.till_ready (rs := [12, 16]) (by kernel_rfl) (by simp) ?_
                      refine Rb.AllT.cons (o := ⟨some 164, .call { callee := Callee.builtin Builtin.append, args := #[.tmp 153, .tmp 163], argTypes := #[22, 22] }, 22, "law.go:201", #[⟨1, .data⟩, ⟨11, .data⟩], none⟩) rfl (fun K hK => ?_) (Rb.AllT.cons (o := ⟨some 168, .buildSlice 22 1 #[(0, .tmp 167)], 22, "law.go:201", #[⟨15, .data⟩], none⟩) rfl (fun K hK => ?_) (Rb.AllT.nil))
                      · refine step_app _ rfl (.tmp 153) (.tmp 163) rfl (vn.heap.size + 1) u p S rfl (own_bel HQ6.out.1.ou (by repeat (first | exact Bel.rf | with_reducible refine Bel.drwN ?_ _ | with_reducible refine Bel.drw ?_ | with_reducible refine Bel.al ?_ _))) ⟨wi.heap.size, 0, none⟩ 1 1 [x / 2 ^ (4 - kq)] rfl (zi_bk (L := [x / 2 ^ (4 - kq)]) ((by repeat (first | (refine Bk.nq _ _ _ ?_; simp; done) | with_reducible refine Bk.drwN ?_ _ | with_reducible refine Bk.drw ?_ | with_reducible refine Bk.al ?_ _)) : Bk _ wi.heap.size 3 (zs [x / 2 ^ (4 - kq)]).toArray) 1 rfl) HI1.out (by have := HQ6.out.1.sz; simp; omega) ?_; intro v7 x7 h7 hg7 ha7; obtain ⟨A7, c7, hv7, _⟩ := own_any h7; subst hv7; have HQ7 : Hid (Wq g (vn.heap.size + 1) vn x7 (.slice A7 (p + 1) c7) v (p + 1) p (S ++ [x / 2 ^ (4 - kq)]) B ∧ Bk x7 vn.heap.size 32 #[u, v]) := ⟨(HQ6.out.1.up (by repeat (first | exact Bel.rf | with_reducible refine Bel.drwN ?_ _ | with_reducible refine Bel.drw ?_ | with_reducible refine Bel.al ?_ _))).ax h7 hg7 ha7, bk_grw (HQ6.out.2.bel (by repeat (first | exact Bel.rf | with_reducible refine Bel.drwN ?_ _ | with_reducible refine Bel.drw ?_ | with_reducible refine Bel.al ?_ _))) hg7 (fun e => by have := (HQ6.out.1.ou.lt _ e).1; omega)⟩; clear h7 hg7 ha7
                        try go_wp2_with fail
                        refine hK.out _ _ ?_ (fun hH2 => ?_)
                        · (try dsimp only); exact KSN.out _ (HQ7.out.1.ch.tr (Ch.of_bel (by repeat (first | exact Bel.rf | with_reducible refine Bel.drwN ?_ _ | with_reducible refine Bel.drw ?_ | with_reducible refine Bel.al ?_ _)))) (HQ7.out.2.bel (by repeat (first | exact Bel.rf | with_reducible refine Bel.drwN ?_ _ | with_reducible refine Bel.drw ?_ | with_reducible refine Bel.al ?_ _)))
                        clear hK K hH1
                        try simp only [Act.put, setIfInBounds_toArray, set_cons_zero, set_cons_succ]
                        refine Rb.till_take (i := 18) (oi := ⟨some 170, .fieldAddr 32 (.tmp 15) 0, 0, "law.go:201", #[⟨0, .phase⟩, ⟨1, .phase⟩, ⟨2, .phase⟩, ⟨3, .phase⟩, ⟨4, .phase⟩, ⟨5, .phase⟩, ⟨6, .phase⟩, ⟨7, .phase⟩, ⟨8, .phase⟩, ⟨9, .phase⟩, ⟨10, .phase⟩, ⟨11, .phase⟩, ⟨12, .phase⟩, ⟨13, .phase⟩, ⟨14, .phase⟩, ⟨15, .textOnly Departure.lateStores⟩, ⟨16, .textOnly Departure.lateStores⟩, ⟨17, .textOnly Departure.lateStoresUnsure⟩], none⟩) (v := ?_) rfl (by kernel_rfl) (by kernel_rfl) (by kernel_rfl) (fun _ _ _ h => h) (by decide) opN rfl (by kernel_rfl) (by kernel_rfl) (Or.inl ⟨by kernel_rfl, ?_⟩) (by assumption) ?_
                        rotate_left
                        · (intro w hSw; (try dsimp only at hSw); obtain ⟨d1, d2, d3, d4⟩ := hSw; go_simp; try with_reducible rfl)
                        try simp only [Act.put, setIfInBounds_toArray, set_cons_zero, set_cons_succ]
                        refine Rb.till_ready (rs := [16]) (by kernel_rfl) (by simp) ?_
                        refine Rb.AllT.cons (o := ⟨some 168, .buildSlice 22 1 #[(0, .tmp 167)], 22, "law.go:201", #[⟨15, .data⟩], none⟩) rfl (fun K hK => ?_) (Rb.AllT.nil)
                        · go_simp
                          try go_wp2_with fail
                          refine hK.out _ _ ?_ (fun hH3 => ?_)
                          · (try dsimp only); exact KSN.out _ (HQ7.out.1.ch.tr (Ch.of_bel (by repeat (first | exact Bel.rf | with_reducible refine Bel.drwN ?_ _ | with_reducible refine Bel.drw ?_ | with_reducible refine Bel.al ?_ _)))) (HQ7.out.2.bel (by repeat (first | exact Bel.rf | with_reducible refine Bel.drwN ?_ _ | with_reducible refine Bel.drw ?_ | with_reducible refine Bel.al ?_ _)))
                          clear hK K hH2
                          try simp only [Act.put, setIfInBounds_toArray, set_cons_zero, set_cons_succ]
                          refine Rb.till_ready (rs := [17]) (by kernel_rfl) (by simp) ?_
                          refine Rb.AllT.cons (o := ⟨some 169, .call { callee := Callee.builtin Builtin.append, args := #[.tmp 166, .tmp 168], argTypes := #[22, 22] }, 22, "law.go:201", #[⟨14, .data⟩, ⟨16, .data⟩, ⟨12, .chain⟩], none⟩) rfl (fun K hK => ?_) (Rb.AllT.nil)
                          · refine step_app _ rfl (.tmp 166) (.tmp 168) rfl (vn.heap.size + 1) v p B rfl (own_bel HQ7.out.1.ov (by repeat (first | exact Bel.rf | with_reducible refine Bel.drwN ?_ _ | with_reducible refine Bel.drw ?_ | with_reducible refine Bel.al ?_ _))) ⟨x7.heap.size, 0, none⟩ 1 1 [(kq : Int)] rfl (zi_bk (L := [(kq : Int)]) ((by repeat (first | (refine Bk.nq _ _ _ ?_; simp; done) | with_reducible refine Bk.drwN ?_ _ | with_reducible refine Bk.drw ?_ | with_reducible refine Bk.al ?_ _)) : Bk _ x7.heap.size 3 (zs [(kq : Int)]).toArray) 1 rfl) HI1.out (by have := HQ7.out.1.sz; simp; omega) ?_; intro v12 x12 h12 hg12 ha12; obtain ⟨A12, c12, hv12, _⟩ := own_any h12; subst hv12; have HQ12 : Hid (Wq g (vn.heap.size + 1) vn x12 (.slice A7 (p + 1) c7) (.slice A12 (p + 1) c12) (p + 1) (p + 1) (S ++ [x / 2 ^ (4 - kq)]) (B ++ [(kq : Int)]) ∧ Bk x12 vn.heap.size 32 #[u, v]) := ⟨((HQ7.out.1.up (by repeat (first | exact Bel.rf | with_reducible refine Bel.drwN ?_ _ | with_reducible refine Bel.drw ?_ | with_reducible refine Bel.al ?_ _))).sx.ax h12 hg12 ha12).sx, bk_grw (HQ7.out.2.bel (by repeat (first | exact Bel.rf | with_reducible refine Bel.drwN ?_ _ | with_reducible refine Bel.drw ?_ | with_reducible refine Bel.al ?_ _))) hg12 (fun e => by have := (HQ7.out.1.ov.lt _ e).1; omega)⟩; have y0 := HQ12.out.2.cell 0; have y1 := HQ12.out.2.cell 1; have z0 := HQ12.out.2.fr 0; have z1 := HQ12.out.2.fr 1; simp only [getElem?_toArray, getElem?_cons_zero, getElem?_cons_succ] at y0 y1; clear h12 hg12 ha12
                            try go_wp2_with fail
                            refine hK.out _ _ ?_ (fun hH4 => ?_)
                            · (try dsimp only); exact KSN.out _ (HQ12.out.1.ch.tr (Ch.of_bel (by repeat (first | exact Bel.rf | with_reducible refine Bel.drwN ?_ _ | with_reducible refine Bel.drw ?_ | with_reducible refine Bel.al ?_ _)))) (HQ12.out.2.bel (by repeat (first | exact Bel.rf | with_reducible refine Bel.drwN ?_ _ | with_reducible refine Bel.drw ?_ | with_reducible refine Bel.al ?_ _)))
                            clear hK K hH3
                            try simp only [Act.put, setIfInBounds_toArray, set_cons_zero, set_cons_succ]
                            refine Rb.till_ready (rs := [19]) (by kernel_rfl) (by simp) ?_
                            refine Rb.AllT.past (o := ⟨none, .store 22 (.tmp 170) (.tmp 164), 0, "law.go:201", #[⟨18, .data⟩, ⟨12, .data⟩, ⟨17, .chain⟩, ⟨0, .phase⟩, ⟨1, .phase⟩, ⟨2, .phase⟩, ⟨3, .phase⟩, ⟨4, .phase⟩, ⟨5, .phase⟩, ⟨6, .phase⟩, ⟨7, .phase⟩, ⟨8, .phase⟩, ⟨9, .phase⟩, ⟨10, .phase⟩, ⟨11, .phase⟩, ⟨12, .phase⟩, ⟨13, .phase⟩, ⟨14, .phase⟩, ⟨15, .textOnly Departure.lateStores⟩, ⟨16, .textOnly Departure.lateStores⟩, ⟨17, .textOnly Departure.lateStoresUnsure⟩], none⟩) rfl (by kernel_rfl) (fun K hK => ?_) (Rb.AllT.nil)
                            · go_simp
                              try go_wp2_with fail
                              refine hK.out _ _ trivial (fun hH5 => ?_)
                              clear hK K hH4
                              try simp only [Act.put, setIfInBounds_toArray, set_cons_zero, set_cons_succ]
                              refine Rb.till_free (i := 20) (oi := ⟨some 171, .fieldAddr 32 (.tmp 15) 1, 0, "law.go:201", #[⟨0, .phase⟩, ⟨1, .phase⟩, ⟨2, .phase⟩, ⟨3, .phase⟩, ⟨4, .phase⟩, ⟨5, .phase⟩, ⟨6, .phase⟩, ⟨7, .phase⟩, ⟨8, .phase⟩, ⟨9, .phase⟩, ⟨10, .phase⟩, ⟨11, .phase⟩, ⟨12, .phase⟩, ⟨13, .phase⟩, ⟨14, .phase⟩, ⟨15, .phase⟩, ⟨16, .phase⟩, ⟨17, .phase⟩, ⟨18, .phase⟩, ⟨19, .phase⟩], none⟩) (v := ?_) rfl (by kernel_rfl) (by kernel_rfl) (by kernel_rfl) (fun _ _ _ h => h) (by decide) (Or.inl ⟨by kernel_rfl, ?_⟩) (fun h => absurd h (by decide)) ?_
                              rotate_left
                              · (intro w hSw; clear hSw; go_simp; try with_reducible rfl)
                              try simp only [Act.put, setIfInBounds_toArray, set_cons_zero, set_cons_succ]
                              refine Rb.till_ready (rs := [21]) (by kernel_rfl) (by simp) ?_
                              refine Rb.AllT.past (o := ⟨none, .store 22 (.tmp 171) (.tmp 169), 0, "law.go:201", #[⟨20, .data⟩, ⟨17, .data⟩, ⟨19, .chain⟩, ⟨0, .phase⟩, ⟨1, .phase⟩, ⟨2, .phase⟩, ⟨3, .phase⟩, ⟨4, .phase⟩, ⟨5, .phase⟩, ⟨6, .phase⟩, ⟨7, .phase⟩, ⟨8, .phase⟩, ⟨9, .phase⟩, ⟨10, .phase⟩, ⟨11, .phase⟩, ⟨12, .phase⟩, ⟨13, .phase⟩, ⟨14, .phase⟩, ⟨15, .phase⟩, ⟨16, .phase⟩, ⟨17, .phase⟩, ⟨18, .phase⟩, ⟨19, .phase⟩], none⟩) rfl (by kernel_rfl) (fun K hK => ?_) (Rb.AllT.nil)
                              · go_simp
                                try go_wp2_with fail
                                refine hK.out _ _ trivial (fun hH6 => ?_)
                                clear hK K hH5
                                try simp only [Act.put, setIfInBounds_toArray, set_cons_zero, set_cons_succ]
                                refine Rb.till_done (by kernel_rfl) ?_ _
                                refine NoPanic.normal ?_
                                have HFL : Hid (Wq g (vn.heap.size + 1) vn ((x12.setCell ⟨vn.heap.size, 0, none⟩ (.slice A7 (p + 1) c7)).setCell ⟨vn.heap.size, 1, none⟩ (.slice A12 (p + 1) c12)) (.slice A7 (p + 1) c7) (.slice A12 (p + 1) c12) (p + 1) (p + 1) (nS F0 kq mo (p + 1)) (nB kq mo (p + 1)) ∧ Bk ((x12.setCell ⟨vn.heap.size, 0, none⟩ (.slice A7 (p + 1) c7)).setCell ⟨vn.heap.size, 1, none⟩ (.slice A12 (p + 1) c12)) vn.heap.size 32 #[.slice A7 (p + 1) c7, .slice A12 (p + 1) c12]) := by
                                  show _ ∧ _
                                  rw [(HSN.out _ HYN.out).1, (HSN.out _ HYN.out).2]
                                  exact ⟨(HQ12.out.1.st (Nat.le_refl _) (Nat.lt_succ_self _) HGN.out _ _).st (Nat.le_refl _) (Nat.lt_succ_self _) HGN.out _ _, (HQ12.out.2.st 0 _).st 1 _⟩
                                go_wp2_with fail
                                go_roundw
                                case rel => exact ⟨p + 1, _, _, _, rfl, by omega, by go_num, HFL.out.1, HFL.out.2⟩
                                case measure => simp [intOf]; omega
                      · go_simp
                        try go_wp2_with fail
                        refine hK.out _ _ ?_ (fun hH2 => ?_)
                        · (try dsimp only); exact KSN.out _ (HQ6.out.1.ch.tr (Ch.of_bel (by repeat (first | exact Bel.rf | with_reducible refine Bel.drwN ?_ _ | with_reducible refine Bel.drw ?_ | with_reducible refine Bel.al ?_ _)))) (HQ6.out.2.bel (by repeat (first | exact Bel.rf | with_reducible refine Bel.drwN ?_ _ | with_reducible refine Bel.drw ?_ | with_reducible refine Bel.al ?_ _)))
                        clear hK K hH1
                        try simp only [Act.put, setIfInBounds_toArray, set_cons_zero, set_cons_succ]
                        refine Rb.till_ready (rs := [12]) (by kernel_rfl) (by simp) ?_
                        refine Rb.AllT.cons (o := ⟨some 164, .call { callee := Callee.builtin Builtin.append, args := #[.tmp 153, .tmp 163], argTypes := #[22, 22] }, 22, "law.go:201", #[⟨1, .data⟩, ⟨11, .data⟩], none⟩) rfl (fun K hK => ?_) (Rb.AllT.nil)
                        · refine step_app _ rfl (.tmp 153) (.tmp 163) rfl (vn.heap.size + 1) u p S rfl (own_bel HQ6.out.1.ou (by repeat (first | exact Bel.rf | with_reducible refine Bel.drwN ?_ _ | with_reducible refine Bel.drw ?_ | with_reducible refine Bel.al ?_ _))) ⟨wi.heap.size, 0, none⟩ 1 1 [x / 2 ^ (4 - kq)] rfl (zi_bk (L := [x / 2 ^ (4 - kq)]) ((by repeat (first | (refine Bk.nq _ _ _ ?_; simp; done) | with_reducible refine Bk.drwN ?_ _ | with_reducible refine Bk.drw ?_ | with_reducible refine Bk.al ?_ _)) : Bk _ wi.heap.size 3 (zs [x / 2 ^ (4 - kq)]).toArray) 1 rfl) HI1.out (by have := HQ6.out.1.sz; simp; omega) ?_; intro v7 x7 h7 hg7 ha7; obtain ⟨A7, c7, hv7, _⟩ := own_any h7; subst hv7; have HQ7 : Hid (Wq g (vn.heap.size + 1) vn x7 (.slice A7 (p + 1) c7) v (p + 1) p (S ++ [x / 2 ^ (4 - kq)]) B ∧ Bk x7 vn.heap.size 32 #[u, v]) := ⟨(HQ6.out.1.up (by repeat (first | exact Bel.rf | with_reducible refine Bel.drwN ?_ _ | with_reducible refine Bel.drw ?_ | with_reducible refine Bel.al ?_ _))).ax h7 hg7 ha7, bk_grw (HQ6.out.2.bel (by repeat (first | exact Bel.rf | with_reducible refine Bel.drwN ?_ _ | with_reducible refine Bel.drw ?_ | with_reducible refine Bel.al ?_ _))) hg7 (fun e => by have := (HQ6.out.1.ou.lt _ e).1; omega)⟩; have HX7 : Hid (Bk x7 (wi.heap.size + 1) 3 (zs [(kq : Int)]).toArray) := bk_grw ((by repeat (first | (refine Bk.nq _ _ _ ?_; simp; done) | with_reducible refine Bk.drwN ?_ _ | with_reducible refine Bk.drw ?_ | with_reducible refine Bk.al ?_ _)) : Bk _ (wi.heap.size + 1) 3 (zs [(kq : Int)]).toArray) hg7 (fun e => by have := HBU.out _ e; omega); clear h7 hg7 ha7
                          try go_wp2_with fail
                          refine hK.out _ _ ?_ (fun hH3 => ?_)
                          · (try dsimp only); exact KSN.out _ (HQ7.out.1.ch.tr (Ch.of_bel (by repeat (first | exact Bel.rf | with_reducible refine Bel.drwN ?_ _ | with_reducible refine Bel.drw ?_ | with_reducible refine Bel.al ?_ _)))) (HQ7.out.2.bel (by repeat (first | exact Bel.rf | with_reducible refine Bel.drwN ?_ _ | with_reducible refine Bel.drw ?_ | with_reducible refine Bel.al ?_ _)))
                          clear hK K hH2
                          try simp only [Act.put, setIfInBounds_toArray, set_cons_zero, set_cons_succ]
                          refine Rb.till_take (i := 18) (oi := ⟨some 170, .fieldAddr 32 (.tmp 15) 0, 0, "law.go:201", #[⟨0, .phase⟩, ⟨1, .phase⟩, ⟨2, .phase⟩, ⟨3, .phase⟩, ⟨4, .phase⟩, ⟨5, .phase⟩, ⟨6, .phase⟩, ⟨7, .phase⟩, ⟨8, .phase⟩, ⟨9, .phase⟩, ⟨10, .phase⟩, ⟨11, .phase⟩, ⟨12, .phase⟩, ⟨13, .phase⟩, ⟨14, .phase⟩, ⟨15, .textOnly Departure.lateStores⟩, ⟨16, .textOnly Departure.lateStores⟩, ⟨17, .textOnly Departure.lateStoresUnsure⟩], none⟩) (v := ?_) rfl (by kernel_rfl) (by kernel_rfl) (by kernel_rfl) (fun _ _ _ h => h) (by decide) opN rfl (by kernel_rfl) (by kernel_rfl) (Or.inl ⟨by kernel_rfl, ?_⟩) (by assumption) ?_
                          rotate_left
                          · (intro w hSw; (try dsimp only at hSw); obtain ⟨d1, d2, d3, d4⟩ := hSw; go_simp; try with_reducible rfl)
                          try simp only [Act.put, setIfInBounds_toArray, set_cons_zero, set_cons_succ]
                          refine Rb.till_ready (rs := [17]) (by kernel_rfl) (by simp) ?_
                          refine Rb.AllT.cons (o := ⟨some 169, .call { callee := Callee.builtin Builtin.append, args := #[.tmp 166, .tmp 168], argTypes := #[22, 22] }, 22, "law.go:201", #[⟨14, .data⟩, ⟨16, .data⟩, ⟨12, .chain⟩], none⟩) rfl (fun K hK => ?_) (Rb.AllT.nil)
                          · refine step_app _ rfl (.tmp 166) (.tmp 168) rfl (vn.heap.size + 1) v p B rfl (own_bel HQ7.out.1.ov (by repeat (first | exact Bel.rf | with_reducible refine Bel.drwN ?_ _ | with_reducible refine Bel.drw ?_ | with_reducible refine Bel.al ?_ _))) ⟨wi.heap.size + 1, 0, none⟩ 1 1 [(kq : Int)] rfl (zi_bk (L := [(kq : Int)]) (HX7.out.bel (by repeat (first | exact Bel.rf | with_reducible refine Bel.drwN ?_ _ | with_reducible refine Bel.drw ?_ | with_reducible refine Bel.al ?_ _))) 1 rfl) HI1.out (by have := HQ7.out.1.sz; simp; omega) ?_; intro v12 x12 h12 hg12 ha12; obtain ⟨A12, c12, hv12, _⟩ := own_any h12; subst hv12; have HQ12 : Hid (Wq g (vn.heap.size + 1) vn x12 (.slice A7 (p + 1) c7) (.slice A12 (p + 1) c12) (p + 1) (p + 1) (S ++ [x / 2 ^ (4 - kq)]) (B ++ [(kq : Int)]) ∧ Bk x12 vn.heap.size 32 #[u, v]) := ⟨((HQ7.out.1.up (by repeat (first | exact Bel.rf | with_reducible refine Bel.drwN ?_ _ | with_reducible refine Bel.drw ?_ | with_reducible refine Bel.al ?_ _))).sx.ax h12 hg12 ha12).sx, bk_grw (HQ7.out.2.bel (by repeat (first | exact Bel.rf | with_reducible refine Bel.drwN ?_ _ | with_reducible refine Bel.drw ?_ | with_reducible refine Bel.al ?_ _))) hg12 (fun e => by have := (HQ7.out.1.ov.lt _ e).1; omega)⟩; have y0 := HQ12.out.2.cell 0; have y1 := HQ12.out.2.cell 1; have z0 := HQ12.out.2.fr 0; have z1 := HQ12.out.2.fr 1; simp only [getElem?_toArray, getElem?_cons_zero, getElem?_cons_succ] at y0 y1; clear h12 hg12 ha12
                            try go_wp2_with fail
                            refine hK.out _ _ ?_ (fun hH4 => ?_)
                            · (try dsimp only); exact KSN.out _ (HQ12.out.1.ch.tr (Ch.of_bel (by repeat (first | exact Bel.rf | with_reducible refine Bel.drwN ?_ _ | with_reducible refine Bel.drw ?_ | with_reducible refine Bel.al ?_ _)))) (HQ12.out.2.bel (by repeat (first | exact Bel.rf | with_reducible refine Bel.drwN ?_ _ | with_reducible refine Bel.drw ?_ | with_reducible refine Bel.al ?_ _)))
                            clear hK K hH3
                            try simp only [Act.put, setIfInBounds_toArray, set_cons_zero, set_cons_succ]
                            refine Rb.till_ready (rs := [19]) (by kernel_rfl) (by simp) ?_
                            refine Rb.AllT.past (o := ⟨none, .store 22 (.tmp 170) (.tmp 164), 0, "law.go:201", #[⟨18, .data⟩, ⟨12, .data⟩, ⟨17, .chain⟩, ⟨0, .phase⟩, ⟨1, .phase⟩, ⟨2, .phase⟩, ⟨3, .phase⟩, ⟨4, .phase⟩, ⟨5, .phase⟩, ⟨6, .phase⟩, ⟨7, .phase⟩, ⟨8, .phase⟩, ⟨9, .phase⟩, ⟨10, .phase⟩, ⟨11, .phase⟩, ⟨12, .phase⟩, ⟨13, .phase⟩, ⟨14, .phase⟩, ⟨15, .textOnly Departure.lateStores⟩, ⟨16, .textOnly Departure.lateStores⟩, ⟨17, .textOnly Departure.lateStoresUnsure⟩], none⟩) rfl (by kernel_rfl) (fun K hK => ?_) (Rb.AllT.nil)
                            · go_simp
                              try go_wp2_with fail
                              refine hK.out _ _ trivial (fun hH5 => ?_)
                              clear hK K hH4
                              try simp only [Act.put, setIfInBounds_toArray, set_cons_zero, set_cons_succ]
                              refine Rb.till_free (i := 20) (oi := ⟨some 171, .fieldAddr 32 (.tmp 15) 1, 0, "law.go:201", #[⟨0, .phase⟩, ⟨1, .phase⟩, ⟨2, .phase⟩, ⟨3, .phase⟩, ⟨4, .phase⟩, ⟨5, .phase⟩, ⟨6, .phase⟩, ⟨7, .phase⟩, ⟨8, .phase⟩, ⟨9, .phase⟩, ⟨10, .phase⟩, ⟨11, .phase⟩, ⟨12, .phase⟩, ⟨13, .phase⟩, ⟨14, .phase⟩, ⟨15, .phase⟩, ⟨16, .phase⟩, ⟨17, .phase⟩, ⟨18, .phase⟩, ⟨19, .phase⟩], none⟩) (v := ?_) rfl (by kernel_rfl) (by kernel_rfl) (by kernel_rfl) (fun _ _ _ h => h) (by decide) (Or.inl ⟨by kernel_rfl, ?_⟩) (fun h => absurd h (by decide)) ?_
                              rotate_left
                              · (intro w hSw; clear hSw; go_simp; try with_reducible rfl)
                              try simp only [Act.put, setIfInBounds_toArray, set_cons_zero, set_cons_succ]
                              refine Rb.till_ready (rs := [21]) (by kernel_rfl) (by simp) ?_
                              refine Rb.AllT.past (o := ⟨none, .store 22 (.tmp 171) (.tmp 169), 0, "law.go:201", #[⟨20, .data⟩, ⟨17, .data⟩, ⟨19, .chain⟩, ⟨0, .phase⟩, ⟨1, .phase⟩, ⟨2, .phase⟩, ⟨3, .phase⟩, ⟨4, .phase⟩, ⟨5, .phase⟩, ⟨6, .phase⟩, ⟨7, .phase⟩, ⟨8, .phase⟩, ⟨9, .phase⟩, ⟨10, .phase⟩, ⟨11, .phase⟩, ⟨12, .phase⟩, ⟨13, .phase⟩, ⟨14, .phase⟩, ⟨15, .phase⟩, ⟨16, .phase⟩, ⟨17, .phase⟩, ⟨18, .phase⟩, ⟨19, .phase⟩], none⟩) rfl (by kernel_rfl) (fun K hK => ?_) (Rb.AllT.nil)
                              · go_simp
                                try go_wp2_with fail
                                refine hK.out _ _ trivial (fun hH6 => ?_)
                                clear hK K hH5
                                try simp only [Act.put, setIfInBounds_toArray, set_cons_zero, set_cons_succ]
                                refine Rb.till_done (by kernel_rfl) ?_ _
                                refine NoPanic.normal ?_
                                have HFL : Hid (Wq g (vn.heap.size + 1) vn ((x12.setCell ⟨vn.heap.size, 0, none⟩ (.slice A7 (p + 1) c7)).setCell ⟨vn.heap.size, 1, none⟩ (.slice A12 (p + 1) c12)) (.slice A7 (p + 1) c7) (.slice A12 (p + 1) c12) (p + 1) (p + 1) (nS F0 kq mo (p + 1)) (nB kq mo (p + 1)) ∧ Bk ((x12.setCell ⟨vn.heap.size, 0, none⟩ (.slice A7 (p + 1) c7)).setCell ⟨vn.heap.size, 1, none⟩ (.slice A12 (p + 1) c12)) vn.heap.size 32 #[.slice A7 (p + 1) c7, .slice A12 (p + 1) c12]) := by
                                  show _ ∧ _
                                  rw [(HSN.out _ HYN.out).1, (HSN.out _ HYN.out).2]
                                  exact ⟨(HQ12.out.1.st (Nat.le_refl _) (Nat.lt_succ_self _) HGN.out _ _).st (Nat.le_refl _) (Nat.lt_succ_self _) HGN.out _ _, (HQ12.out.2.st 0 _).st 1 _⟩
                                go_wp2_with fail
                                go_roundw
                                case rel => exact ⟨p + 1, _, _, _, rfl, by omega, by go_num, HFL.out.1, HFL.out.2⟩
                                case measure => simp [intOf]; omega
                    · go_simp
                      try go_wp2_with fail
                      refine hK.out _ _ ?_ (fun hH1 => ?_)
                      · (try dsimp only); exact KSN.out _ (HQ6.out.1.ch.tr (Ch.of_bel (by repeat (first | exact Bel.rf | with_reducible refine Bel.drwN ?_ _ | with_reducible refine Bel.drw ?_ | with_reducible refine Bel.al ?_ _)))) (HQ6.out.2.bel (by repeat (first | exact Bel.rf | with_reducible refine Bel.drwN ?_ _ | with_reducible refine Bel.drw ?_ | with_reducible refine Bel.al ?_ _)))
                      clear hK K hH0
                      try simp only [Act.put, setIfInBounds_toArray, set_cons_zero, set_cons_succ]
                      refine Rb.till_ready (rs := [11]) (by kernel_rfl) (by simp) ?_
                      refine Rb.AllT.cons (o := ⟨some 163, .buildSlice 22 1 #[(0, .tmp 162)], 22, "law.go:201", #[⟨10, .data⟩], none⟩) rfl (fun K hK => ?_) (Rb.AllT.nil)
                      · go_simp
                        try go_wp2_with fail
                        refine hK.out _ _ ?_ (fun hH2 => ?_)
                        · (try dsimp only); exact KSN.out _ (HQ6.out.1.ch.tr (Ch.of_bel (by repeat (first | exact Bel.rf | with_reducible refine Bel.drwN ?_ _ | with_reducible refine Bel.drw ?_ | with_reducible refine Bel.al ?_ _)))) (HQ6.out.2.bel (by repeat (first | exact Bel.rf | with_reducible refine Bel.drwN ?_ _ | with_reducible refine Bel.drw ?_ | with_reducible refine Bel.al ?_ _)))
                        clear hK K hH1
                        try simp only [Act.put, setIfInBounds_toArray, set_cons_zero, set_cons_succ]
                        refine Rb.till_ready (rs := [12]) (by kernel_rfl) (by simp) ?_
                        refine Rb.AllT.cons (o := ⟨some 164, .call { callee := Callee.builtin Builtin.append, args := #[.tmp 153, .tmp 163], argTypes := #[22, 22] }, 22, "law.go:201", #[⟨1, .data⟩, ⟨11, .data⟩], none⟩) rfl (fun K hK => ?_) (Rb.AllT.nil)
                        · refine step_app _ rfl (.tmp 153) (.tmp 163) rfl (vn.heap.size + 1) u p S rfl (own_bel HQ6.out.1.ou (by repeat (first | exact Bel.rf | with_reducible refine Bel.drwN ?_ _ | with_reducible refine Bel.drw ?_ | with_reducible refine Bel.al ?_ _))) ⟨wi.heap.size + 1, 0, none⟩ 1 1 [x / 2 ^ (4 - kq)] rfl (zi_bk (L := [x / 2 ^ (4 - kq)]) ((by repeat (first | (refine Bk.nq _ _ _ ?_; simp; done) | with_reducible refine Bk.drwN ?_ _ | with_reducible refine Bk.drw ?_ | with_reducible refine Bk.al ?_ _)) : Bk _ (wi.heap.size + 1) 3 (zs [x / 2 ^ (4 - kq)]).toArray) 1 rfl) HI1.out (by have := HQ6.out.1.sz; simp; omega) ?_; intro v7 x7 h7 hg7 ha7; obtain ⟨A7, c7, hv7, _⟩ := own_any h7; subst hv7; have HQ7 : Hid (Wq g (vn.heap.size + 1) vn x7 (.slice A7 (p + 1) c7) v (p + 1) p (S ++ [x / 2 ^ (4 - kq)]) B ∧ Bk x7 vn.heap.size 32 #[u, v]) := ⟨(HQ6.out.1.up (by repeat (first | exact Bel.rf | with_reducible refine Bel.drwN ?_ _ | with_reducible refine Bel.drw ?_ | with_reducible refine Bel.al ?_ _))).ax h7 hg7 ha7, bk_grw (HQ6.out.2.bel (by repeat (first | exact Bel.rf | with_reducible refine Bel.drwN ?_ _ | with_reducible refine Bel.drw ?_ | with_reducible refine Bel.al ?_ _))) hg7 (fun e => by have := (HQ6.out.1.ou.lt _ e).1; omega)⟩; have HX7 : Hid (Bk x7 wi.heap.size 3 (zs [(kq : Int)]).toArray) := bk_grw ((by repeat (first | (refine Bk.nq _ _ _ ?_; simp; done) | with_reducible refine Bk.drwN ?_ _ | with_reducible refine Bk.drw ?_ | with_reducible refine Bk.al ?_ _)) : Bk _ wi.heap.size 3 (zs [(kq : Int)]).toArray) hg7 (fun e => by have := HBU.out _ e; omega); clear h7 hg7 ha7
                          try go_wp2_with fail
                          refine hK.out _ _ ?_ (fun hH3 => ?_)
                          · (try dsimp only); exact KSN.out _ (HQ7.out.1.ch.tr (Ch.of_bel (by repeat (first | exact Bel.rf | with_reducible refine Bel.drwN ?_ _ | with_reducible refine Bel.drw ?_ | with_reducible refine Bel.al ?_ _)))) (HQ7.out.2.bel (by repeat (first | exact Bel.rf | with_reducible refine Bel.drwN ?_ _ | with_reducible refine Bel.drw ?_ | with_reducible refine Bel.al ?_ _)))
                          clear hK K hH2
                          try simp only [Act.put, setIfInBounds_toArray, set_cons_zero, set_cons_succ]
                          refine Rb.till_take (i := 18) (oi := ⟨some 170, .fieldAddr 32 (.tmp 15) 0, 0, "law.go:201", #[⟨0, .phase⟩, ⟨1, .phase⟩, ⟨2, .phase⟩, ⟨3, .phase⟩, ⟨4, .phase⟩, ⟨5, .phase⟩, ⟨6, .phase⟩, ⟨7, .phase⟩, ⟨8, .phase⟩, ⟨9, .phase⟩, ⟨10, .phase⟩, ⟨11, .phase⟩, ⟨12, .phase⟩, ⟨13, .phase⟩, ⟨14, .phase⟩, ⟨15, .textOnly Departure.lateStores⟩, ⟨16, .textOnly Departure.lateStores⟩, ⟨17, .textOnly Departure.lateStoresUnsure⟩], none⟩) (v := ?_) rfl (by kernel_rfl) (by kernel_rfl) (by kernel_rfl) (fun _ _ _ h => h) (by decide) opN rfl (by kernel_rfl) (by kernel_rfl) (Or.inl ⟨by kernel_rfl, ?_⟩) (by assumption) ?_
                          rotate_left
                          · (intro w hSw; (try dsimp only at hSw); obtain ⟨d1, d2, d3, d4⟩ := hSw; go_simp; try with_reducible rfl)
                          try simp only [Act.put, setIfInBounds_toArray, set_cons_zero, set_cons_succ]
                          refine Rb.till_ready (rs := [17]) (by kernel_rfl) (by simp) ?_
                          refine Rb.AllT.cons (o := ⟨some 169, .call { callee := Callee.builtin Builtin.append, args := #[.tmp 166, .tmp 168], argTypes := #[22, 22] }, 22, "law.go:201", #[⟨14, .data⟩, ⟨16, .data⟩, ⟨12, .chain⟩], none⟩) rfl (fun K hK => ?_) (Rb.AllT.nil)
                          · refine step_app _ rfl (.tmp 166) (.tmp 168) rfl (vn.heap.size + 1) v p B rfl (own_bel HQ7.out.1.ov (by repeat (first | exact Bel.rf | with_reducible refine Bel.drwN ?_ _ | with_reducible refine Bel.drw ?_ | with_reducible refine Bel.al ?_ _))) ⟨wi.heap.size, 0, none⟩ 1 1 [(kq : Int)] rfl (zi_bk (L := [(kq : Int)]) (HX7.out.bel (by repeat (first | exact Bel.rf | with_reducible refine Bel.drwN ?_ _ | with_reducible refine Bel.drw ?_ | with_reducible refine Bel.al ?_ _))) 1 rfl) HI1.out (by have := HQ7.out.1.sz; simp; omega) ?_; intro v12 x12 h12 hg12 ha12; obtain ⟨A12, c12, hv12, _⟩ := own_any h12; subst hv12; have HQ12 : Hid (Wq g (vn.heap.size + 1) vn x12 (.slice A7 (p + 1) c7) (.slice A12 (p + 1) c12) (p + 1) (p + 1) (S ++ [x / 2 ^ (4 - kq)]) (B ++ [(kq : Int)]) ∧ Bk x12 vn.heap.size 32 #[u, v]) := ⟨((HQ7.out.1.up (by repeat (first | exact Bel.rf | with_reducible refine Bel.drwN ?_ _ | with_reducible refine Bel.drw ?_ | with_reducible refine Bel.al ?_ _))).sx.ax h12 hg12 ha12).sx, bk_grw (HQ7.out.2.bel (by repeat (first | exact Bel.rf | with_reducible refine Bel.drwN ?_ _ | with_reducible refine Bel.drw ?_ | with_reducible refine Bel.al ?_ _))) hg12 (fun e => by have := (HQ7.out.1.ov.lt _ e).1; omega)⟩; have y0 := HQ12.out.2.cell 0; have y1 := HQ12.out.2.cell 1; have z0 := HQ12.out.2.fr 0; have z1 := HQ12.out.2.fr 1; simp only [getElem?_toArray, getElem?_cons_zero, getElem?_cons_succ] at y0 y1; clear h12 hg12 ha12
                            try go_wp2_with fail
                            refine hK.out _ _ ?_ (fun hH4 => ?_)
                            · (try dsimp only); exact KSN.out _ (HQ12.out.1.ch.tr (Ch.of_bel (by repeat (first | exact Bel.rf | with_reducible refine Bel.drwN ?_ _ | with_reducible refine Bel.drw ?_ | with_reducible refine Bel.al ?_ _)))) (HQ12.out.2.bel (by repeat (first | exact Bel.rf | with_reducible refine Bel.drwN ?_ _ | with_reducible refine Bel.drw ?_ | with_reducible refine Bel.al ?_ _)))
                            clear hK K hH3
                            try simp only [Act.put, setIfInBounds_toArray, set_cons_zero, set_cons_succ]
                            refine Rb.till_ready (rs := [19]) (by kernel_rfl) (by simp) ?_
                            refine Rb.AllT.past (o := ⟨none, .store 22 (.tmp 170) (.tmp 164), 0, "law.go:201", #[⟨18, .data⟩, ⟨12, .data⟩, ⟨17, .chain⟩, ⟨0, .phase⟩, ⟨1, .phase⟩, ⟨2, .phase⟩, ⟨3, .phase⟩, ⟨4, .phase⟩, ⟨5, .phase⟩, ⟨6, .phase⟩, ⟨7, .phase⟩, ⟨8, .phase⟩, ⟨9, .phase⟩, ⟨10, .phase⟩, ⟨11, .phase⟩, ⟨12, .phase⟩, ⟨13, .phase⟩, ⟨14, .phase⟩, ⟨15, .textOnly Departure.lateStores⟩, ⟨16, .textOnly Departure.lateStores⟩, ⟨17, .textOnly Departure.lateStoresUnsure⟩], none⟩) rfl (by kernel_rfl) (fun K hK => ?_) (Rb.AllT.nil)
                            · go_simp
                              try go_wp2_with fail
                              refine hK.out _ _ trivial (fun hH5 => ?_)
                              clear hK K hH4
                              try simp only [Act.put, setIfInBounds_toArray, set_cons_zero, set_cons_succ]
                              refine Rb.till_free (i := 20) (oi := ⟨some 171, .fieldAddr 32 (.tmp 15) 1, 0, "law.go:201", #[⟨0, .phase⟩, ⟨1, .phase⟩, ⟨2, .phase⟩, ⟨3, .phase⟩, ⟨4, .phase⟩, ⟨5, .phase⟩, ⟨6, .phase⟩, ⟨7, .phase⟩, ⟨8, .phase⟩, ⟨9, .phase⟩, ⟨10, .phase⟩, ⟨11, .phase⟩, ⟨12, .phase⟩, ⟨13, .phase⟩, ⟨14, .phase⟩, ⟨15, .phase⟩, ⟨16, .phase⟩, ⟨17, .phase⟩, ⟨18, .phase⟩, ⟨19, .phase⟩], none⟩) (v := ?_) rfl (by kernel_rfl) (by kernel_rfl) (by kernel_rfl) (fun _ _ _ h => h) (by decide) (Or.inl ⟨by kernel_rfl, ?_⟩) (fun h => absurd h (by decide)) ?_
                              rotate_left
                              · (intro w hSw; clear hSw; go_simp; try with_reducible rfl)
                              try simp only [Act.put, setIfInBounds_toArray, set_cons_zero, set_cons_succ]
                              refine Rb.till_ready (rs := [21]) (by kernel_rfl) (by simp) ?_
                              refine Rb.AllT.past (o := ⟨none, .store 22 (.tmp 171) (.tmp 169), 0, "law.go:201", #[⟨20, .data⟩, ⟨17, .data⟩, ⟨19, .chain⟩, ⟨0, .phase⟩, ⟨1, .phase⟩, ⟨2, .phase⟩, ⟨3, .phase⟩, ⟨4, .phase⟩, ⟨5, .phase⟩, ⟨6, .phase⟩, ⟨7, .phase⟩, ⟨8, .phase⟩, ⟨9, .phase⟩, ⟨10, .phase⟩, ⟨11, .phase⟩, ⟨12, .phase⟩, ⟨13, .phase⟩, ⟨14, .phase⟩, ⟨15, .phase⟩, ⟨16, .phase⟩, ⟨17, .phase⟩, ⟨18, .phase⟩, ⟨19, .phase⟩], none⟩) rfl (by kernel_rfl) (fun K hK => ?_) (Rb.AllT.nil)
                              · go_simp
                                try go_wp2_with fail
                                refine hK.out _ _ trivial (fun hH6 => ?_)
                                clear hK K hH5
                                try simp only [Act.put, setIfInBounds_toArray, set_cons_zero, set_cons_succ]
                                refine Rb.till_done (by kernel_rfl) ?_ _
                                refine NoPanic.normal ?_
                                have HFL : Hid (Wq g (vn.heap.size + 1) vn ((x12.setCell ⟨vn.heap.size, 0, none⟩ (.slice A7 (p + 1) c7)).setCell ⟨vn.heap.size, 1, none⟩ (.slice A12 (p + 1) c12)) (.slice A7 (p + 1) c7) (.slice A12 (p + 1) c12) (p + 1) (p + 1) (nS F0 kq mo (p + 1)) (nB kq mo (p + 1)) ∧ Bk ((x12.setCell ⟨vn.heap.size, 0, none⟩ (.slice A7 (p + 1) c7)).setCell ⟨vn.heap.size, 1, none⟩ (.slice A12 (p + 1) c12)) vn.heap.size 32 #[.slice A7 (p + 1) c7, .slice A12 (p + 1) c12]) := by
                                  show _ ∧ _
                                  rw [(HSN.out _ HYN.out).1, (HSN.out _ HYN.out).2]
                                  exact ⟨(HQ12.out.1.st (Nat.le_refl _) (Nat.lt_succ_self _) HGN.out _ _).st (Nat.le_refl _) (Nat.lt_succ_self _) HGN.out _ _, (HQ12.out.2.st 0 _).st 1 _⟩
                                go_wp2_with fail
                                go_roundw
                                case rel => exact ⟨p + 1, _, _, _, rfl, by omega, by go_num, HFL.out.1, HFL.out.2⟩
                                case measure => simp [intOf]; omega
              · obtain rfl : p = n := by omega
                obtain ⟨eA, ec, he, zE⟩ := own_zx HQ6.out.1.ou (by simp [nS])
                obtain ⟨lA, lc, hl, zL⟩ := own_zx HQ6.out.1.ov (by simp [nB])
                subst he hl
                have HZN : Hid (Zi wi eA p (nS F0 kq mo p) ∧ Zi wi lA p (nB kq mo p)) := ⟨zE, zL⟩
                have HCI : Hid (Ch g wr wi) := HCN.out.tr HQ6.out.1.ch
                have HNV : Hid (Wv p (nS F0 kq mo p) (nB kq mo p)) := node_wv HK4.out (full_in HVV.out.1)
                have HBB : Hid (∀ W, Bel wi W → ∀ (xA yA : Option Addr) (xc yc : Nat) (G : List Int), Wv p G (List.replicate p 4) → Zi W xA p G → Zi W yA p (List.replicate p 4) → ∀ z, decide (Blg p (nS F0 kq mo p) (nB kq mo p) G) = z → Calls Try.prog 18 #[.agg #[.int .i64 k, .int .i64 b, .int .i64 q, .int .i64 (m : Int), .int .i64 (p : Int), .slice A nc cc], .agg #[.slice eA p ec, .slice lA p lc], .agg #[.slice xA p xc, .slice yA p yc]] W fun e w' => e = .returned (.bool z) ∧ Bel W w') := fun W hW xA yA xc yc G hG z1 z2 z hz => by
                  rw [← hz]
                  exact belongs_ok k b q m p A eA lA xA yA nc cc ec lc xc yc C _ _ G _ HS.out HNV.out hG (four_at p) W (HZA.out W (HCI.out.tr (Ch.of_bel hW))) (HZN.out.1.bel hW) (HZN.out.2.bel hW) z1 z2
                have KZ : Hid (∀ W, Bel wi W → (fun W => W.cell? ⟨v2.heap.size, 0, none⟩ = some (.int .i64 k) ∧ W.cell? ⟨v2.heap.size, 1, none⟩ = some (.int .i64 b) ∧ W.cell? ⟨v2.heap.size, 2, none⟩ = some (.int .i64 q) ∧ W.cell? ⟨v2.heap.size, 3, none⟩ = some (.int .i64 (m : Int)) ∧ W.cell? ⟨v2.heap.size, 4, none⟩ = some (.int .i64 (p : Int)) ∧ W.cell? ⟨v2.heap.size, 5, none⟩ = some (.slice A nc cc) ∧ W.cell? ⟨v2.heap.size + 1, 0, none⟩ = some (.slice (some sad) p sc) ∧ W.cell? ⟨v2.heap.size + 1, 1, none⟩ = some (.slice bA p bc) ∧ W.cell? ⟨v2.heap.size + 1, 2, none⟩ = some (.slice tA p tc) ∧ W.cell? ⟨v2.heap.size + 1, 3, none⟩ = some (.slice cA p ct) ∧ W.cell? ⟨v2.heap.size + 1, 4, none⟩ = some (.slice uA p uc) ∧ W.cell? ⟨v2.heap.size + 1, 5, none⟩ = some (.slice dA p dc)) W ∧ W.cell? ⟨vn.heap.size, 0, none⟩ = some (.slice eA p ec) ∧ W.cell? ⟨vn.heap.size, 1, none⟩ = some (.slice lA p lc)) := fun W hW => by
                  have h := HQ6.out.2.bel hW
                  have u0 := h.cell 0
                  have u1 := h.cell 1
                  simp only [getElem?_toArray, getElem?_cons_zero, getElem?_cons_succ] at u0 u1
                  exact ⟨KS12H.out W (HCI.out.tr (Ch.of_bel hW)), u0, u1⟩
                have B0 : Hid (∀ W, Bel wi W → Calls Try.prog 18 #[.agg #[.int .i64 k, .int .i64 b, .int .i64 q, .int .i64 (m : Int), .int .i64 (p : Int), .slice A nc cc], .agg #[.slice eA p ec, .slice lA p lc], .agg #[.slice (some sad) p sc, .slice bA p bc]] W fun e w' => e = .returned (.bool true) ∧ Bel W w') := fun W hW => HBB.out W hW _ _ _ _ F0 HVV.out.1 ((HZ0.out W (HCI.out.tr (Ch.of_bel hW))).1) ((HZ0.out W (HCI.out.tr (Ch.of_bel hW))).2) true (decide_eq_true (node_blg.2 (fun i hi => rfl)))
                have B2 : Hid (∀ z, decide (Blg p (nS F0 kq mo p) (nB kq mo p) F2) = z → ∀ W, Bel wi W → Calls Try.prog 18 #[.agg #[.int .i64 k, .int .i64 b, .int .i64 q, .int .i64 (m : Int), .int .i64 (p : Int), .slice A nc cc], .agg #[.slice eA p ec, .slice lA p lc], .agg #[.slice uA p uc, .slice dA p dc]] W fun e w' => e = .returned (.bool z) ∧ Bel W w') := fun z hz W hW => HBB.out W hW _ _ _ _ F2 HVV.out.2.2 ((HZ3.out W (HCI.out.tr (Ch.of_bel hW))).1) ((HZ3.out W (HCI.out.tr (Ch.of_bel hW))).2) z hz
                have B1 : Hid (Blg p (nS F0 kq mo p) (nB kq mo p) F2 → ∀ W, Bel wi W → Calls Try.prog 18 #[.agg #[.int .i64 k, .int .i64 b, .int .i64 q, .int .i64 (m : Int), .int .i64 (p : Int), .slice A nc cc], .agg #[.slice eA p ec, .slice lA p lc], .agg #[.slice tA p tc, .slice cA p ct]] W fun e w' => e = .returned (.bool true) ∧ Bel W w') := fun h2 W hW => HBB.out W hW _ _ _ _ F1 HVV.out.2.1 ((HZ1.out W (HCI.out.tr (Ch.of_bel hW))).1) ((HZ1.out W (HCI.out.tr (Ch.of_bel hW))).2) true (decide_eq_true (node_blg.2 (node_mid HN1.out HK4.out (Nat.le_of_lt HMO.out) (full_in HVV.out.1) (full_in HVV.out.2.1) (full_in HVV.out.2.2) HLE.out.1 HLE.out.2 (node_blg.1 h2))))
                obtain ⟨⟨d0, d1, d2, d3, d4, d5, d6, d7, d8, d9, d10, d11⟩, d12, d13⟩ := KZ.out wi Bel.rf
                clear zE zL
                by_cases hb2 : Blg p (nS F0 kq mo p) (nB kq mo p) F2
                · go_wp2_with fail
                  go_at_call 18
                  refine (B2.out true (decide_eq_true hb2) _ (by repeat (first | exact Bel.rf | with_reducible refine Bel.drwN ?_ _ | with_reducible refine Bel.drw ?_ | with_reducible refine Bel.al ?_ _))).mono ?_
                  rintro e z1 ⟨rfl, hb⟩
                  have G1 : Hid (Bel wi z1) := Bel.tr (by repeat (first | exact Bel.rf | with_reducible refine Bel.drwN ?_ _ | with_reducible refine Bel.drw ?_ | with_reducible refine Bel.al ?_ _)) hb
                  clear hb d0 d1 d2 d3 d4 d5 d6 d7 d8 d9 d10 d11 d12 d13
                  obtain ⟨⟨d0, d1, d2, d3, d4, d5, d6, d7, d8, d9, d10, d11⟩, d12, d13⟩ := KZ.out z1 G1.out
                  go_wp2_with fail
                  go_at_call 18
                  refine (B1.out hb2 _ (G1.out.tr (by repeat (first | exact Bel.rf | with_reducible refine Bel.drwN ?_ _ | with_reducible refine Bel.drw ?_ | with_reducible refine Bel.al ?_ _)))).mono ?_
                  rintro e z2 ⟨rfl, hb⟩
                  have G2 : Hid (Bel wi z2) := G1.out.tr (Bel.tr (by repeat (first | exact Bel.rf | with_reducible refine Bel.drwN ?_ _ | with_reducible refine Bel.drw ?_ | with_reducible refine Bel.al ?_ _)) hb)
                  clear hb d0 d1 d2 d3 d4 d5 d6 d7 d8 d9 d10 d11 d12 d13
                  obtain ⟨⟨d0, d1, d2, d3, d4, d5, d6, d7, d8, d9, d10, d11⟩, d12, d13⟩ := KZ.out z2 G2.out
                  go_wp2_with fail
                  go_at_call 18
                  refine (B0.out _ (G2.out.tr (by repeat (first | exact Bel.rf | with_reducible refine Bel.drwN ?_ _ | with_reducible refine Bel.drw ?_ | with_reducible refine Bel.al ?_ _)))).mono ?_
                  rintro e z3 ⟨rfl, hb⟩
                  have G3 : Hid (Bel wi z3) := G2.out.tr (Bel.tr (by repeat (first | exact Bel.rf | with_reducible refine Bel.drwN ?_ _ | with_reducible refine Bel.drw ?_ | with_reducible refine Bel.al ?_ _)) hb)
                  clear hb d0 d1 d2 d3 d4 d5 d6 d7 d8 d9 d10 d11 d12 d13
                  go_wp2_with (go_at_call 19; refine (AW.out _).mono ?_; rintro e v9 ⟨rfl, h9⟩; have HB9 : Hid (Bel wi v9) := G3.out.tr (Bel.tr (by repeat (first | exact Bel.rf | with_reducible refine Bel.drwN ?_ _ | with_reducible refine Bel.drw ?_ | with_reducible refine Bel.al ?_ _)) h9); clear h9)
                  go_ret
                  exact ⟨rfl, ((HWW.out wi HCI.out).tr HB9.out).bl⟩
                · go_wp2_with fail
                  go_at_call 18
                  refine (B2.out false (decide_eq_false hb2) _ (by repeat (first | exact Bel.rf | with_reducible refine Bel.drwN ?_ _ | with_reducible refine Bel.drw ?_ | with_reducible refine Bel.al ?_ _))).mono ?_
                  rintro e z1 ⟨rfl, hb⟩
                  have G2 : Hid (Bel wi z1) := Bel.tr (by repeat (first | exact Bel.rf | with_reducible refine Bel.drwN ?_ _ | with_reducible refine Bel.drw ?_ | with_reducible refine Bel.al ?_ _)) hb
                  clear hb d0 d1 d2 d3 d4 d5 d6 d7 d8 d9 d10 d11 d12 d13
                  obtain ⟨⟨d0, d1, d2, d3, d4, d5, d6, d7, d8, d9, d10, d11⟩, d12, d13⟩ := KZ.out z1 G2.out
                  go_wp2_with fail
                  go_at_call 18
                  refine (B0.out _ (G2.out.tr (by repeat (first | exact Bel.rf | with_reducible refine Bel.drwN ?_ _ | with_reducible refine Bel.drw ?_ | with_reducible refine Bel.al ?_ _)))).mono ?_
                  rintro e z3 ⟨rfl, hb⟩
                  have G3 : Hid (Bel wi z3) := G2.out.tr (Bel.tr (by repeat (first | exact Bel.rf | with_reducible refine Bel.drwN ?_ _ | with_reducible refine Bel.drw ?_ | with_reducible refine Bel.al ?_ _)) hb)
                  clear hb d0 d1 d2 d3 d4 d5 d6 d7 d8 d9 d10 d11 d12 d13
                  go_wp2_with (go_at_call 19; refine (AW.out _).mono ?_; rintro e v9 ⟨rfl, h9⟩; have HB9 : Hid (Bel wi v9) := G3.out.tr (Bel.tr (by repeat (first | exact Bel.rf | with_reducible refine Bel.drwN ?_ _ | with_reducible refine Bel.drw ?_ | with_reducible refine Bel.al ?_ _)) h9); clear h9)
                  go_ret
                  exact ⟨rfl, ((HWW.out wi HCI.out).tr HB9.out).bl⟩

set_option maxRecDepth 100000 in
theorem lifted (os : Os) (started : os.Started) (H : Type) (enc : TypeId × Value → H) :
    ReturnsInHanded {} Try.checked os 6 .any (Rows.wordOrderSpec.pre6 enc Try.prog Try.f6 Rows.wordOrderRow.domain false) (Rows.wordOrderSpec.post enc Try.prog Try.f6 false true false false) := by
  refine returnsInHanded_of_change (C := Try.checked) own started (by kernel_rfl) Try.func6
    (ChangeSpec.witness6 (enc := enc) (C := Try.checked) false ⟨#[], #[.slice none 0 0, .int .u8 0], []⟩ 8 (by kernel_rfl) (by kernel_rfl) (by kernel_rfl) (by kernel_rfl)) ?_
  intro W base args ds gs before hval0 hW hcnd _
  have hval : ∀ (j : Nat) t v, Try.f6.params[j]? = some t → args[j]? = some v → Value.okWide Try.prog W .any base t v := hval0
  have hW' := hW
  obtain ⟨p, q, hA0, hV, rfl, hfz, hnd⟩ := hW
  have hA : DataW.TrodAll enc Try.prog W 0 (fun _ => true) true Try.f6.params.toList args.toList ds p := hA0
  rw [Try.params6] at hA hval
  obtain ⟨v0, vs0, d0, ds0, p0, q0, hargs, rfl, rfl, h0, r0⟩ := trodAll_cons hA
  obtain ⟨v1, vs1, d1, ds1, p1, q1, rfl, rfl, rfl, h1, r1⟩ := trodAll_cons r0
  obtain ⟨rfl, rfl, rfl⟩ := trodAll_nil r1
  obtain rfl : args = #[v0, v1] := by cases args; simp_all
  obtain ⟨rfl, rfl⟩ := trodVars_none hV
  obtain ⟨a0, len0, cap0, rfl⟩ := okWide_slice Try.underlying22 (hval 0 22 v0 rfl rfl)
  have k0 := h0
  have lt0 : ∀ x ∈ p0, x.block < W.heap.size := by obtain ⟨m, hm⟩ := k0; exact DataW.trod_lt m _ _ _ hm
  obtain ⟨z0, w0⟩ : ∃ zs, IsRow .i64 W a0 len0 cap0 zs := by
    obtain ⟨fuel, hf⟩ := h0
    rcases open_ints Try.underlying22 Try.underlying3 (by kernel_rfl) hf with ⟨hcs, _⟩ | ⟨x, l, c, zs, hcs, _, hl, hm, hz, _, hcell, hwz⟩
    · simp [Value.cells] at hcs
      obtain ⟨rfl, rfl, rfl⟩ := hcs
      exact ⟨[], .inl ⟨rfl, rfl, rfl, rfl⟩⟩
    · simp [Value.cells] at hcs
      obtain ⟨rfl, rfl, rfl⟩ := hcs
      exact ⟨zs, .inr ⟨_, rfl, hl, hm, by simpa using hz, hcell, hwz⟩⟩
  obtain ⟨a1, rfl, rfl, rfl, w1⟩ := open_int Try.underlying5 (hval 1 5 v1 rfl rfl) h1
  clear hA0 hval0
  refine (walk a0 len0 cap0 z0 a1 W w0 w1).mono fun e W' ⟨he, bel⟩ => ?_
  subst he
  exact ⟨_, rfl, _, _, _, [], _, [], hW', trodAll_mk1 (shut_bool Try.underlying4 _), (trodAll_cons_mk (Below.trod laidOut (by kernel_rfl) (of_decide_eq_true (by kernel_rfl)) k0 bel lt0) (trodAll_cons_mk (shut_int Try.underlying5 w1) trodAll_mk0)), rfl, bel.frame _, fun h => by cases h⟩

theorem over : Rows.wordOrderRow.holds Try.pinned (OpenSpec.ofChange Rows.wordOrderSpec) :=
  OpenClaim.holds_of_wide 6 Try.f6 rfl rfl rfl rfl rfl rfl rfl ⟨rfl, rfl, rfl, rfl, rfl⟩ rfl rfl rfl rfl rfl (by kernel_rfl) Try.func6 (by kernel_rfl)
    (of_decide_eq_true (by kernel_rfl)) (by unfold Func.isWrapper; first | (rw [if_pos (by decide +kernel)]; kernel_rfl) | (rw [if_neg (by decide +kernel)]; exact ⟨rfl, rfl⟩))
    (fun os started H enc _ => lifted os started H enc)

theorem proved : Rows.WordOrderSaid := over
end Go.Proofs.Ytgdhgeongdenpaa.wordOrder
