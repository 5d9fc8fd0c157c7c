/- That the law WordSplits returns true for every input that can be read, and leaves its arguments as they were; no further condition. -/
import Derived.Test.YtgdhgeongdenpaaRows
import Derived.WalkKit
import Derived.ProofKit
import Derived.OpenShut
import Derived.Test.YtgdhgeongdenpaaWords
import Derived.Test.YtgdhgeongdenpaaSrcNew0
import Derived.Test.YtgdhgeongdenpaaWd9
import Derived.Test.YtgdhgeongdenpaaWd14
import Derived.Test.YtgdhgeongdenpaaWd16
import Derived.Test.YtgdhgeongdenpaaWdS
import Derived.ShutString
import Derived.ChangeOld
import Derived.Below
namespace Go.Proofs.Ytgdhgeongdenpaa.wordSplits
open Go.ChangeShapes Go.WideShapes Go.ChangeAt Go.RowKit Wo
open Go.ChangeMaps (open_string shut_string)
set_option linter.unusedVariables false

theorem own : ownKnob Try.prog.godebug = none := by kernel_rfl
theorem laidOut : laidOutB Try.prog = true := by kernel_rfl

/-- WHAT THE WALK IS TOLD OF A SLICE OF INTEGERS THAT CAME IN: it is nil; or it leads to a row of 'cap' cells, the numbers 'zs' (the first 'len' are its elements, the rest its spare room), each fitting its kind. -/
def IsRow (k : IntKind) (w : World) (a : Option Addr) (len cap : Nat) (zs : List Int) : Prop :=
  (a = none ∧ len = 0 ∧ cap = 0 ∧ zs = []) ∨
  ∃ x, a = some x ∧ len ≤ cap ∧ cap ≤ maxLen ∧ zs.length = cap ∧ (∀ i, i < zs.length → w.cell? (x.add i) = some (.int k (zs.getD i 0))) ∧ ∀ n ∈ zs, (Lit.int k n).wf = true

open Go.Proofs.Ytgdhgeongdenpaa.Wd Go.Proofs.Ytgdhgeongdenpaa.Rt Go.Proofs.Ytgdhgeongdenpaa.Nr Go.Proofs.Ytgdhgeongdenpaa.Pc Go.Proofs.Ytgdhgeongdenpaa.Wi Go.Proofs.Ytgdhgeongdenpaa.Wo Go.Proofs.Ytgdhgeongdenpaa.Sr in
open List (setIfInBounds_toArray set_cons_zero set_cons_succ getElem?_toArray getElem?_cons_zero getElem?_cons_succ) in
set_option maxHeartbeats 16000000 in
set_option maxRecDepth 100000 in
set_option linter.unusedSimpArgs false in
theorem walk (a0 : Option Addr) (len0 cap0 : Nat) (z0 : List Int) (w : World) (w0 : IsRow .i64 w a0 len0 cap0 z0) :
    Calls Try.prog 4 #[.slice a0 len0 cap0] w fun e w' => e = .returned (.bool true) ∧ Below w.heap.size w w' := by
  have AW : Hid (∀ W, Calls Try.prog 19 #[] W fun e w' => e = .returned (.bool true) ∧ Bel W w') := awake_any
  go_enter Try.func4, Try.ntmps4
  go_wp2_with fail
  go_at_call 10
  refine (new_any a0 len0 cap0 z0 w w0).mono ?_
  rintro e v1 ⟨g, rfl, hg, ho1, hb1⟩
  have HO1 := Lib.hid ho1
  have HB1 := Lib.hid hb1
  clear ho1 hb1 w0
  go_wp2_with fail
  go_at_call 11
  refine (scheme_any g _ (HO1.out.bel (by repeat (first | exact Bel.rf | with_reducible refine Bel.drwN ?_ _ | with_reducible refine Bel.drw ?_ | with_reducible refine Bel.al ?_ _)))).mono ?_
  rintro e v2 ⟨k, b, q, m, n, A, nc, cc, C, rfl, hs, hown, hCl, ho2, hc2⟩
  have HS := Lib.hid hs
  have HO2 := Lib.hid ho2
  have HGL : Hid (g < v1.heap.size) := HO1.out.lt
  have HB2 : Hid (Bel w v2) := Bel.ch HB1.out ((Ch.of_bel (by repeat (first | exact Bel.rf | with_reducible refine Bel.drwN ?_ _ | with_reducible refine Bel.drw ?_ | with_reducible refine Bel.al ?_ _))).tr hc2) hg
  have HFA : Hid (Fz v1 A nc) := own_fz hown (by first | exact Nat.le_refl _ | (simp; done))
  obtain ⟨A', c', e', hz⟩ := own_zx hown hCl
  cases e'
  have HZ2 := Lib.hid hz
  have n1 := hs.n1
  have n8 := hs.n8
  have HN1 := Lib.hid n1
  have ni : (n : Int) ≤ 8 := by omega
  have ni1 : 1 ≤ (n : Int) := by omega
  have HG := Lib.hid hg
  clear hs hown hCl ho2 hc2 hz hg
  unfold Sx
  have HX2 : Hid (Bk (v2.alloc (.cells #[.int .i64 k, .int .i64 b, .int .i64 q, .int .i64 (m : Int), .int .i64 (n : Int), .slice A nc cc] 28)) v2.heap.size 28 #[.int .i64 k, .int .i64 b, .int .i64 q, .int .i64 (m : Int), .int .i64 (n : Int), .slice A nc cc]) := Bk.nw _ _ _
  have LI : Hid (∀ W, Ok W g → Calls Try.prog 12 #[.pointer (some ⟨g, 0, none⟩), .int .i64 (m : Int)] W (SomeList g m W)) := fun W h => list_any g m (by have := HS.out.m32; omega) W h
  have OF : Hid (∀ hx c X W, Sam X → m ≤ c → Zi W A nc C → Zi W (some ⟨hx, 0, none⟩) m X → Calls Try.prog 13 #[.agg #[.int .i64 k, .int .i64 b, .int .i64 q, .int .i64 (m : Int), .int .i64 (n : Int), .slice A nc cc], .slice (some ⟨hx, 0, none⟩) m c] W (SomeOf n (Go.Proofs.Ytgdhgeongdenpaa.Wd.sys k C X m n) W)) := fun hx c X W h1 h2 h3 h4 => of_ok k b q m n A nc cc C hx c X HS.out h1 h2 W h3 h4
  have KS : Hid (∀ W, Bk W v2.heap.size 28 #[.int .i64 k, .int .i64 b, .int .i64 q, .int .i64 (m : Int), .int .i64 (n : Int), .slice A nc cc] → ((fun W => W.cell? ⟨v2.heap.size, 0, none⟩ = some (.int .i64 k) ∧ W.cell? ⟨v2.heap.size, 1, none⟩ = some (.int .i64 b) ∧ W.cell? ⟨v2.heap.size, 2, none⟩ = some (.int .i64 q) ∧ W.cell? ⟨v2.heap.size, 3, none⟩ = some (.int .i64 (m : Int)) ∧ W.cell? ⟨v2.heap.size, 4, none⟩ = some (.int .i64 (n : Int)) ∧ W.cell? ⟨v2.heap.size, 5, none⟩ = some (.slice A nc cc))) W) := fun W h => by
    have u0 := h.cell 0
    have u1 := h.cell 1
    have u2 := h.cell 2
    have u3 := h.cell 3
    have u4 := h.cell 4
    have u5 := h.cell 5
    simp only [getElem?_toArray, getElem?_cons_zero, getElem?_cons_succ] at u0 u1 u2 u3 u4 u5
    exact ⟨u0, u1, u2, u3, u4, u5⟩
  have HQ2 : Hid (g < v2.heap.size) := HO2.out.lt
  have nq2 : v2.heap.size ≠ g := by have := HQ2.out; omega
  have HM2 : Hid (0 < m) := (by have := HS.out.m2; omega : _ < _)
  go_upto_region 3 with fail
  go_cut [5, 6] (fun s5 s6 wx => ∃ (u : Nat) (sF bF : Option Addr) (fc fd : Nat) (F : List Int) (V : World), V = wx ∧ s5 = .pointer (some ⟨u, 0, none⟩) ∧ s6 = .int .i64 0 ∧ v2.heap.size < u ∧ Bk wx u 32 #[.slice sF n fc, .slice bF n fd] ∧ Wv n F (List.replicate n 4) ∧ Zi wx sF n F ∧ Zi wx bF n (List.replicate n 4) ∧ Fz v2 sF n ∧ Fz v2 bF n ∧ Ok wx g ∧ Ch g v2 wx ∧ Bk wx v2.heap.size 28 #[.int .i64 k, .int .i64 b, .int .i64 q, .int .i64 (m : Int), .int .i64 (n : Int), .slice A nc cc])
  case first =>
    refine wp_region_noPanic ?_
    refine wp_region_held_drew (S := (fun W => W.cell? ⟨v2.heap.size, 0, none⟩ = some (.int .i64 k) ∧ W.cell? ⟨v2.heap.size, 1, none⟩ = some (.int .i64 b) ∧ W.cell? ⟨v2.heap.size, 2, none⟩ = some (.int .i64 q) ∧ W.cell? ⟨v2.heap.size, 3, none⟩ = some (.int .i64 (m : Int)) ∧ W.cell? ⟨v2.heap.size, 4, none⟩ = some (.int .i64 (n : Int)) ∧ W.cell? ⟨v2.heap.size, 5, none⟩ = some (.slice A nc cc))) (by kernel_rfl) ?_ (fun hH0 => ?_)
    · (try dsimp only); exact KS.out _ (by repeat (first | exact HX2.out | with_reducible refine Bk.drwN ?_ _ | with_reducible refine Bk.drw ?_ | with_reducible refine Bk.al ?_ _))
    refine wpAnyH_take (i := 0) (oi := ⟨some 22, .load 28 (.tmp 4), 28, "law.go:124", #[], none⟩) (v := ?_) rfl (by kernel_rfl) (by kernel_rfl) (by kernel_rfl) (fun _ _ _ h => h) (Or.inl ⟨by kernel_rfl, ?_⟩) (by assumption) ?_
    rotate_left
    · (intro w hSw; (try dsimp only at hSw); obtain ⟨d0, d1, d2, d3, d4, d5⟩ := hSw; go_simp; try with_reducible rfl)
    try simp only [Act.put, setIfInBounds_toArray, set_cons_zero, set_cons_succ]
    refine wpAnyH_take (i := 1) (oi := ⟨some 23, .move (.tmp 3), 23, "law.go:124", #[], none⟩) (v := ?_) rfl (by kernel_rfl) (by kernel_rfl) (by kernel_rfl) (fun _ _ _ h => h) (Or.inl ⟨by kernel_rfl, ?_⟩) (by assumption) ?_
    rotate_left
    · (intro w hSw; (try dsimp only at hSw); obtain ⟨d0, d1, d2, d3, d4, d5⟩ := hSw; go_simp; try with_reducible rfl)
    try simp only [Act.put, setIfInBounds_toArray, set_cons_zero, set_cons_succ]
    refine wpAnyH_take (i := 2) (oi := ⟨some 24, .fieldAddr 28 (.tmp 4) 1, 0, "law.go:124", #[], none⟩) (v := ?_) rfl (by kernel_rfl) (by kernel_rfl) (by kernel_rfl) (fun _ _ _ h => h) (Or.inl ⟨by kernel_rfl, ?_⟩) (by assumption) ?_
    rotate_left
    · (intro w hSw; (try dsimp only at hSw); obtain ⟨d0, d1, d2, d3, d4, d5⟩ := hSw; go_simp; try with_reducible rfl)
    try simp only [Act.put, setIfInBounds_toArray, set_cons_zero, set_cons_succ]
    refine wpAnyH_take (i := 3) (oi := ⟨some 25, .load 3 (.tmp 24), 3, "law.go:124", #[⟨2, .data⟩], none⟩) (v := ?_) rfl (by kernel_rfl) (by kernel_rfl) (by kernel_rfl) (fun _ _ _ h => h) (Or.inl ⟨by kernel_rfl, ?_⟩) (by assumption) ?_
    rotate_left
    · (intro w hSw; (try dsimp only at hSw); obtain ⟨d0, d1, d2, d3, d4, d5⟩ := hSw; go_simp; try with_reducible rfl)
    try simp only [Act.put, setIfInBounds_toArray, set_cons_zero, set_cons_succ]
    refine wpAnyH_ready (rs := [4, 9]) (by kernel_rfl) (by simp) ?_
    refine AllReadyH.cons (o := ⟨some 26, .call { callee := Callee.value (.func 12), args := #[.tmp 23, .tmp 25], argTypes := #[23, 3] }, 22, "law.go:124", #[⟨1, .data⟩, ⟨3, .data⟩], none⟩) rfl (fun K hK => ?_) (AllReadyH.cons (o := ⟨some 5, .alloc 32, 0, "law.go:124", #[], none⟩) rfl (fun K hK => ?_) (AllReadyH.nil))
    · go_simp
      go_at_call 12; refine (LI.out _ (HO2.out.bel (by repeat (first | exact Bel.rf | with_reducible refine Bel.drwN ?_ _ | with_reducible refine Bel.drw ?_ | with_reducible refine Bel.al ?_ _)))).mono ?_; rintro e x4 ⟨vx, X, rfl, hox, hlx, hsx, ho4, hc4⟩; obtain ⟨hx, cx, rfl, mcx, hbx⟩ := row_form hox HM2.out; have HC4 : Hid (Ch g v2 x4) := (Ch.of_bel (by repeat (first | exact Bel.rf | with_reducible refine Bel.drwN ?_ _ | with_reducible refine Bel.drw ?_ | with_reducible refine Bel.al ?_ _))).tr hc4; have HX4 : Hid (Bk x4 v2.heap.size 28 #[.int .i64 k, .int .i64 b, .int .i64 q, .int .i64 (m : Int), .int .i64 (n : Int), .slice A nc cc]) := hc4.bk (by repeat (first | exact HX2.out | with_reducible refine Bk.drwN ?_ _ | with_reducible refine Bk.drw ?_ | with_reducible refine Bk.al ?_ _)) nq2; have HOX : Hid (Zi x4 (some ⟨hx, 0, none⟩) m X) := own_zi hox hlx; have HSX := Lib.hid hsx; have HO4 := Lib.hid ho4; have HMC := Lib.hid mcx; clear hox hlx hsx ho4 hc4 mcx hbx
      try go_wp2_with fail
      refine hK.out _ _ ?_ (fun hH1 => ?_)
      · (try dsimp only); have := HX4.out.lt; exact KS.out _ (by repeat (first | exact HX4.out | with_reducible refine Bk.drwN ?_ _ | with_reducible refine Bk.drw ?_ | with_reducible refine Bk.al ?_ _))
      clear hK K hH0
      try simp only [Act.put, setIfInBounds_toArray, set_cons_zero, set_cons_succ]
      refine wpAnyH_ready (rs := [5, 9]) (by kernel_rfl) (by simp) ?_
      refine AllReadyH.cons (o := ⟨some 27, .call { callee := Callee.value (.func 13), args := #[.tmp 22, .tmp 26], argTypes := #[28, 22] }, 34, "law.go:124", #[⟨0, .data⟩, ⟨4, .data⟩, ⟨4, .chain⟩], none⟩) rfl (fun K hK => ?_) (AllReadyH.cons (o := ⟨some 5, .alloc 32, 0, "law.go:124", #[], none⟩) rfl (fun K hK => ?_) (AllReadyH.nil))
      · go_simp
        go_at_call 13; refine (OF.out hx cx X _ HSX.out HMC.out (zi_fz HZ2.out (HC4.out.tr (Ch.of_bel (by repeat (first | exact Bel.rf | with_reducible refine Bel.drwN ?_ _ | with_reducible refine Bel.drw ?_ | with_reducible refine Bel.al ?_ _)))) HFA.out HGL.out) (HOX.out.bel (by repeat (first | exact Bel.rf | with_reducible refine Bel.drwN ?_ _ | with_reducible refine Bel.drw ?_ | with_reducible refine Bel.al ?_ _)))).mono ?_; rintro e x5 ⟨sF, bF, fc, fd, rfl, hzF, hzB, hb5, fF, fB⟩; have HB5 : Hid (Bel x4 x5) := Bel.tr (by repeat (first | exact Bel.rf | with_reducible refine Bel.drwN ?_ _ | with_reducible refine Bel.drw ?_ | with_reducible refine Bel.al ?_ _)) hb5; have HX5 : Hid (Bk x5 v2.heap.size 28 #[.int .i64 k, .int .i64 b, .int .i64 q, .int .i64 (m : Int), .int .i64 (n : Int), .slice A nc cc]) := HX4.out.bel HB5.out; have HZ5 : Hid (Zi x5 sF n (Go.Proofs.Ytgdhgeongdenpaa.Wd.sys k C X m n) ∧ Zi x5 bF n (List.replicate n 4)) := ⟨hzF, hzB⟩; have HF5 : Hid (Fz x4 sF n ∧ Fz x4 bF n) := ⟨fun h0 ad e => Nat.le_trans (by (try simp)) (fF h0 ad e), fun h0 ad e => Nat.le_trans (by (try simp)) (fB h0 ad e)⟩; clear hb5 hzF hzB fF fB; unfold Wx
        try go_wp2_with fail
        refine hK.out _ _ ?_ (fun hH2 => ?_)
        · (try dsimp only); have := HX4.out.lt; exact KS.out _ (by repeat (first | exact HX5.out | with_reducible refine Bk.drwN ?_ _ | with_reducible refine Bk.drw ?_ | with_reducible refine Bk.al ?_ _))
        clear hK K hH1
        try simp only [Act.put, setIfInBounds_toArray, set_cons_zero, set_cons_succ]
        refine wpAnyH_take (i := 6) (oi := ⟨some 21, .move (.tmp 27), 34, "law.go:124", #[⟨5, .data⟩], none⟩) (v := ?_) rfl (by kernel_rfl) (by kernel_rfl) (by kernel_rfl) (fun _ _ _ h => h) (Or.inl ⟨by kernel_rfl, ?_⟩) (by assumption) ?_
        rotate_left
        · (intro w hSw; (try dsimp only at hSw); obtain ⟨d0, d1, d2, d3, d4, d5⟩ := hSw; go_simp; try with_reducible rfl)
        try simp only [Act.put, setIfInBounds_toArray, set_cons_zero, set_cons_succ]
        refine wpAnyH_take (i := 7) (oi := ⟨some 28, .extract (.tmp 21) 0, 32, "law.go:124", #[⟨6, .data⟩], none⟩) (v := ?_) rfl (by kernel_rfl) (by kernel_rfl) (by kernel_rfl) (fun _ _ _ h => h) (Or.inl ⟨by kernel_rfl, ?_⟩) (by assumption) ?_
        rotate_left
        · (intro w hSw; (try dsimp only at hSw); obtain ⟨d0, d1, d2, d3, d4, d5⟩ := hSw; go_simp; try with_reducible rfl)
        try simp only [Act.put, setIfInBounds_toArray, set_cons_zero, set_cons_succ]
        refine wpAnyH_take (i := 8) (oi := ⟨some 29, .extract (.tmp 21) 1, 33, "law.go:124", #[⟨6, .data⟩, ⟨10, .gcOnly Departure.lateStores⟩], none⟩) (v := ?_) rfl (by kernel_rfl) (by kernel_rfl) (by kernel_rfl) (fun _ _ _ h => h) (Or.inl ⟨by kernel_rfl, ?_⟩) (by assumption) ?_
        rotate_left
        · (intro w hSw; (try dsimp only at hSw); obtain ⟨d0, d1, d2, d3, d4, d5⟩ := hSw; go_simp; try with_reducible rfl)
        try simp only [Act.put, setIfInBounds_toArray, set_cons_zero, set_cons_succ]
        refine wpAnyH_ready (rs := [9]) (by kernel_rfl) (by simp) ?_
        refine AllReadyH.cons (o := ⟨some 5, .alloc 32, 0, "law.go:124", #[], none⟩) rfl (fun K hK => ?_) (AllReadyH.nil)
        · go_simp
          try go_wp2_with fail
          refine hK.out _ _ ?_ (fun hH3 => ?_)
          · (try dsimp only); have := HX4.out.lt; exact KS.out _ (by repeat (first | exact HX5.out | with_reducible refine Bk.drwN ?_ _ | with_reducible refine Bk.drw ?_ | with_reducible refine Bk.al ?_ _))
          clear hK K hH2
          try simp only [Act.put, setIfInBounds_toArray, set_cons_zero, set_cons_succ]
          refine wpAnyH_ready (rs := [10]) (by kernel_rfl) (by simp) ?_
          refine AllReadyH.cons (o := ⟨none, .store 32 (.tmp 5) (.tmp 28), 0, "law.go:124", #[⟨9, .data⟩, ⟨7, .data⟩, ⟨5, .chain⟩, ⟨0, .phase⟩, ⟨1, .phase⟩, ⟨2, .phase⟩, ⟨3, .phase⟩, ⟨4, .phase⟩, ⟨5, .phase⟩, ⟨6, .phase⟩, ⟨7, .phase⟩, ⟨8, .textOnly Departure.lateStores⟩, ⟨9, .phase⟩], none⟩) rfl (fun K hK => ?_) (AllReadyH.nil)
          · go_simp
            try go_wp2_with fail
            refine hK.out _ _ ?_ (fun hH4 => ?_)
            · (try dsimp only); have := HX4.out.lt; exact KS.out _ (by repeat (first | exact HX5.out | with_reducible refine Bk.drwN ?_ _ | with_reducible refine Bk.drw ?_ | with_reducible refine Bk.al ?_ _ | (with_reducible refine Bk.far ?_ (by dsimp only; omega) _)))
            clear hK K hH3
            try simp only [Act.put, setIfInBounds_toArray, set_cons_zero, set_cons_succ]
            refine wpAnyH_take (i := 11) (oi := ⟨some 6, .assign (.tmp 29), 33, "law.go:124", #[⟨8, .data⟩, ⟨10, .chain⟩, ⟨0, .phase⟩, ⟨1, .phase⟩, ⟨2, .phase⟩, ⟨3, .phase⟩, ⟨4, .phase⟩, ⟨5, .phase⟩, ⟨6, .phase⟩, ⟨7, .phase⟩, ⟨8, .phase⟩, ⟨9, .phase⟩, ⟨10, .phase⟩], none⟩) (v := ?_) rfl (by kernel_rfl) (by kernel_rfl) (by kernel_rfl) (fun _ _ _ h => h) (Or.inl ⟨by kernel_rfl, ?_⟩) (by assumption) ?_
            rotate_left
            · (intro w hSw; (try dsimp only at hSw); obtain ⟨d0, d1, d2, d3, d4, d5⟩ := hSw; go_simp; try with_reducible rfl)
            try simp only [Act.put, setIfInBounds_toArray, set_cons_zero, set_cons_succ]
            refine wpAnyH_done (by kernel_rfl) ?_ _
            refine NoPanic.normal ?_
            go_wp2_with fail
            go_meet
            have S4 := HC4.out.sz
            have S6 := HX4.out.lt
            have S7 := HX5.out.lt
            have S5 := HB5.out.size
            have GG := HQ2.out
            have n0 : 0 < n := HN1.out
            exact ⟨x5.heap.size, sF, bF, fc, fd, Go.Proofs.Ytgdhgeongdenpaa.Wd.sys k C X m n, _, rfl, rfl, rfl, by omega, (by repeat (first | (refine Bk.nq _ _ _ ?_; simp; done) | with_reducible refine Bk.drwN ?_ _ | with_reducible refine Bk.drw ?_ | with_reducible refine Bk.al ?_ _)), sys_wv HS.out.cv k X m n, HZ5.out.1.bel (by repeat (first | exact Bel.rf | with_reducible refine Bel.drwN ?_ _ | with_reducible refine Bel.drw ?_ | with_reducible refine Bel.al ?_ _)), HZ5.out.2.bel (by repeat (first | exact Bel.rf | with_reducible refine Bel.drwN ?_ _ | with_reducible refine Bel.drw ?_ | with_reducible refine Bel.al ?_ _)), (fun h0 ad e => Nat.le_trans S4 (HF5.out.1 h0 ad e)), (fun h0 ad e => Nat.le_trans S4 (HF5.out.2 h0 ad e)), (HO4.out.bel HB5.out).bel (by repeat (first | exact Bel.rf | with_reducible refine Bel.drwN ?_ _ | with_reducible refine Bel.drw ?_ | with_reducible refine Bel.al ?_ _)), (HC4.out.tr (Ch.of_bel HB5.out)).tr (Ch.of_bel (by repeat (first | exact Bel.rf | with_reducible refine Bel.drwN ?_ _ | with_reducible refine Bel.drw ?_ | with_reducible refine Bel.al ?_ _))), (by repeat (first | exact HX5.out | with_reducible refine Bk.drwN ?_ _ | with_reducible refine Bk.drw ?_ | with_reducible refine Bk.al ?_ _))⟩
      · go_simp
        try go_wp2_with fail
        refine hK.out _ _ ?_ (fun hH2 => ?_)
        · (try dsimp only); have := HX4.out.lt; exact KS.out _ (by repeat (first | exact HX4.out | with_reducible refine Bk.drwN ?_ _ | with_reducible refine Bk.drw ?_ | with_reducible refine Bk.al ?_ _))
        clear hK K hH1
        try simp only [Act.put, setIfInBounds_toArray, set_cons_zero, set_cons_succ]
        refine wpAnyH_ready (rs := [5]) (by kernel_rfl) (by simp) ?_
        refine AllReadyH.cons (o := ⟨some 27, .call { callee := Callee.value (.func 13), args := #[.tmp 22, .tmp 26], argTypes := #[28, 22] }, 34, "law.go:124", #[⟨0, .data⟩, ⟨4, .data⟩, ⟨4, .chain⟩], none⟩) rfl (fun K hK => ?_) (AllReadyH.nil)
        · go_simp
          go_at_call 13; refine (OF.out hx cx X _ HSX.out HMC.out (zi_fz HZ2.out (HC4.out.tr (Ch.of_bel (by repeat (first | exact Bel.rf | with_reducible refine Bel.drwN ?_ _ | with_reducible refine Bel.drw ?_ | with_reducible refine Bel.al ?_ _)))) HFA.out HGL.out) (HOX.out.bel (by repeat (first | exact Bel.rf | with_reducible refine Bel.drwN ?_ _ | with_reducible refine Bel.drw ?_ | with_reducible refine Bel.al ?_ _)))).mono ?_; rintro e x5 ⟨sF, bF, fc, fd, rfl, hzF, hzB, hb5, fF, fB⟩; have HB5 : Hid (Bel x4 x5) := Bel.tr (by repeat (first | exact Bel.rf | with_reducible refine Bel.drwN ?_ _ | with_reducible refine Bel.drw ?_ | with_reducible refine Bel.al ?_ _)) hb5; have HX5 : Hid (Bk x5 v2.heap.size 28 #[.int .i64 k, .int .i64 b, .int .i64 q, .int .i64 (m : Int), .int .i64 (n : Int), .slice A nc cc]) := HX4.out.bel HB5.out; have HZ5 : Hid (Zi x5 sF n (Go.Proofs.Ytgdhgeongdenpaa.Wd.sys k C X m n) ∧ Zi x5 bF n (List.replicate n 4)) := ⟨hzF, hzB⟩; have HF5 : Hid (Fz x4 sF n ∧ Fz x4 bF n) := ⟨fun h0 ad e => Nat.le_trans (by (try simp)) (fF h0 ad e), fun h0 ad e => Nat.le_trans (by (try simp)) (fB h0 ad e)⟩; have HU5 : Hid (Bk x5 x4.heap.size 32 #[.slice none 0 0, .slice none 0 0]) := Bk.bel (by repeat (first | (refine Bk.nq _ _ _ ?_; simp; done) | with_reducible refine Bk.drwN ?_ _ | with_reducible refine Bk.drw ?_ | with_reducible refine Bk.al ?_ _)) hb5; have HFU : Hid (Fz (x4.alloc (.cells #[.slice none 0 0, .slice none 0 0] 32)) sF n ∧ Fz (x4.alloc (.cells #[.slice none 0 0, .slice none 0 0] 32)) bF n) := ⟨fun h0 ad e => Nat.le_trans (by (try simp)) (fF h0 ad e), fun h0 ad e => Nat.le_trans (by (try simp)) (fB h0 ad e)⟩; have y0 := HU5.out.cell 0; have y1 := HU5.out.cell 1; have z0 := HU5.out.fr 0; have z1 := HU5.out.fr 1; simp only [getElem?_toArray, getElem?_cons_zero, getElem?_cons_succ] at y0 y1; clear hb5 hzF hzB fF fB; unfold Wx
          try go_wp2_with fail
          refine hK.out _ _ ?_ (fun hH3 => ?_)
          · (try dsimp only); have := HX4.out.lt; exact KS.out _ (by repeat (first | exact HX5.out | with_reducible refine Bk.drwN ?_ _ | with_reducible refine Bk.drw ?_ | with_reducible refine Bk.al ?_ _))
          clear hK K hH2
          try simp only [Act.put, setIfInBounds_toArray, set_cons_zero, set_cons_succ]
          refine wpAnyH_take (i := 6) (oi := ⟨some 21, .move (.tmp 27), 34, "law.go:124", #[⟨5, .data⟩], none⟩) (v := ?_) rfl (by kernel_rfl) (by kernel_rfl) (by kernel_rfl) (fun _ _ _ h => h) (Or.inl ⟨by kernel_rfl, ?_⟩) (by assumption) ?_
          rotate_left
          · (intro w hSw; (try dsimp only at hSw); obtain ⟨d0, d1, d2, d3, d4, d5⟩ := hSw; go_simp; try with_reducible rfl)
          try simp only [Act.put, setIfInBounds_toArray, set_cons_zero, set_cons_succ]
          refine wpAnyH_take (i := 7) (oi := ⟨some 28, .extract (.tmp 21) 0, 32, "law.go:124", #[⟨6, .data⟩], none⟩) (v := ?_) rfl (by kernel_rfl) (by kernel_rfl) (by kernel_rfl) (fun _ _ _ h => h) (Or.inl ⟨by kernel_rfl, ?_⟩) (by assumption) ?_
          rotate_left
          · (intro w hSw; (try dsimp only at hSw); obtain ⟨d0, d1, d2, d3, d4, d5⟩ := hSw; go_simp; try with_reducible rfl)
          try simp only [Act.put, setIfInBounds_toArray, set_cons_zero, set_cons_succ]
          refine wpAnyH_take (i := 8) (oi := ⟨some 29, .extract (.tmp 21) 1, 33, "law.go:124", #[⟨6, .data⟩, ⟨10, .gcOnly Departure.lateStores⟩], none⟩) (v := ?_) rfl (by kernel_rfl) (by kernel_rfl) (by kernel_rfl) (fun _ _ _ h => h) (Or.inl ⟨by kernel_rfl, ?_⟩) (by assumption) ?_
          rotate_left
          · (intro w hSw; (try dsimp only at hSw); obtain ⟨d0, d1, d2, d3, d4, d5⟩ := hSw; go_simp; try with_reducible rfl)
          try simp only [Act.put, setIfInBounds_toArray, set_cons_zero, set_cons_succ]
          refine wpAnyH_ready (rs := [10]) (by kernel_rfl) (by simp) ?_
          refine AllReadyH.cons (o := ⟨none, .store 32 (.tmp 5) (.tmp 28), 0, "law.go:124", #[⟨9, .data⟩, ⟨7, .data⟩, ⟨5, .chain⟩, ⟨0, .phase⟩, ⟨1, .phase⟩, ⟨2, .phase⟩, ⟨3, .phase⟩, ⟨4, .phase⟩, ⟨5, .phase⟩, ⟨6, .phase⟩, ⟨7, .phase⟩, ⟨8, .textOnly Departure.lateStores⟩, ⟨9, .phase⟩], none⟩) rfl (fun K hK => ?_) (AllReadyH.nil)
          · go_simp
            try go_wp2_with fail
            refine hK.out _ _ ?_ (fun hH4 => ?_)
            · (try dsimp only); have := HX4.out.lt; exact KS.out _ (by repeat (first | exact HX5.out | with_reducible refine Bk.drwN ?_ _ | with_reducible refine Bk.drw ?_ | with_reducible refine Bk.al ?_ _ | (with_reducible refine Bk.far ?_ (by dsimp only; omega) _)))
            clear hK K hH3
            try simp only [Act.put, setIfInBounds_toArray, set_cons_zero, set_cons_succ]
            refine wpAnyH_take (i := 11) (oi := ⟨some 6, .assign (.tmp 29), 33, "law.go:124", #[⟨8, .data⟩, ⟨10, .chain⟩, ⟨0, .phase⟩, ⟨1, .phase⟩, ⟨2, .phase⟩, ⟨3, .phase⟩, ⟨4, .phase⟩, ⟨5, .phase⟩, ⟨6, .phase⟩, ⟨7, .phase⟩, ⟨8, .phase⟩, ⟨9, .phase⟩, ⟨10, .phase⟩], none⟩) (v := ?_) rfl (by kernel_rfl) (by kernel_rfl) (by kernel_rfl) (fun _ _ _ h => h) (Or.inl ⟨by kernel_rfl, ?_⟩) (by assumption) ?_
            rotate_left
            · (intro w hSw; (try dsimp only at hSw); obtain ⟨d0, d1, d2, d3, d4, d5⟩ := hSw; go_simp; try with_reducible rfl)
            try simp only [Act.put, setIfInBounds_toArray, set_cons_zero, set_cons_succ]
            refine wpAnyH_done (by kernel_rfl) ?_ _
            refine NoPanic.normal ?_
            go_wp2_with fail
            go_meet
            have S4 := HC4.out.sz
            have S6 := HX4.out.lt
            have S7 := HX5.out.lt
            have S5 := HB5.out.size
            have GG := HQ2.out
            have n0 : 0 < n := HN1.out
            exact ⟨x4.heap.size, sF, bF, fc, fd, Go.Proofs.Ytgdhgeongdenpaa.Wd.sys k C X m n, _, rfl, rfl, rfl, by omega, (HU5.out.st 0 _).st 1 _, sys_wv HS.out.cv k X m n, zi_fz HZ5.out.1 (((Ch.rf (g := x4.heap.size)).st 0 _).st 1 _) HFU.out.1 (by first | exact hul | (simp; done)), zi_fz HZ5.out.2 (((Ch.rf (g := x4.heap.size)).st 0 _).st 1 _) HFU.out.2 (by first | exact hul | (simp; done)), (fun h0 ad e => Nat.le_trans S4 (HF5.out.1 h0 ad e)), (fun h0 ad e => Nat.le_trans S4 (HF5.out.2 h0 ad e)), ((HO4.out.bel HB5.out).st (by dsimp only; omega) _).st (by dsimp only; omega) _, ((HC4.out.tr (Ch.of_bel HB5.out)).st2 (by dsimp only; omega) _).st2 (by dsimp only; omega) _, (HX5.out.far (by dsimp only; omega) _).far (by dsimp only; omega) _⟩
    · go_simp
      try go_wp2_with fail
      refine hK.out _ _ ?_ (fun hH1 => ?_)
      · (try dsimp only); exact KS.out _ (by repeat (first | exact HX2.out | with_reducible refine Bk.drwN ?_ _ | with_reducible refine Bk.drw ?_ | with_reducible refine Bk.al ?_ _))
      clear hK K hH0
      try simp only [Act.put, setIfInBounds_toArray, set_cons_zero, set_cons_succ]
      refine wpAnyH_ready (rs := [4]) (by kernel_rfl) (by simp) ?_
      refine AllReadyH.cons (o := ⟨some 26, .call { callee := Callee.value (.func 12), args := #[.tmp 23, .tmp 25], argTypes := #[23, 3] }, 22, "law.go:124", #[⟨1, .data⟩, ⟨3, .data⟩], none⟩) rfl (fun K hK => ?_) (AllReadyH.nil)
      · go_simp
        go_at_call 12; refine (LI.out _ (HO2.out.bel (by repeat (first | exact Bel.rf | with_reducible refine Bel.drwN ?_ _ | with_reducible refine Bel.drw ?_ | with_reducible refine Bel.al ?_ _)))).mono ?_; rintro e x4 ⟨vx, X, rfl, hox, hlx, hsx, ho4, hc4⟩; obtain ⟨hx, cx, rfl, mcx, hbx⟩ := row_form hox HM2.out; have HC4 : Hid (Ch g v2 x4) := (Ch.of_bel (by repeat (first | exact Bel.rf | with_reducible refine Bel.drwN ?_ _ | with_reducible refine Bel.drw ?_ | with_reducible refine Bel.al ?_ _))).tr hc4; have HX4 : Hid (Bk x4 v2.heap.size 28 #[.int .i64 k, .int .i64 b, .int .i64 q, .int .i64 (m : Int), .int .i64 (n : Int), .slice A nc cc]) := hc4.bk (by repeat (first | exact HX2.out | with_reducible refine Bk.drwN ?_ _ | with_reducible refine Bk.drw ?_ | with_reducible refine Bk.al ?_ _)) nq2; have HOX : Hid (Zi x4 (some ⟨hx, 0, none⟩) m X) := own_zi hox hlx; have HSX := Lib.hid hsx; have HO4 := Lib.hid ho4; have HMC := Lib.hid mcx; have HB4 : Hid (Bk x4 (v2.heap.size + 1) 32 #[.slice none 0 0, .slice none 0 0]) := hc4.bk (by repeat (first | (refine Bk.nq _ _ _ ?_; simp; done) | with_reducible refine Bk.drwN ?_ _ | with_reducible refine Bk.drw ?_ | with_reducible refine Bk.al ?_ _)) (by have := HQ2.out; omega); clear hox hlx hsx ho4 hc4 mcx hbx
        try go_wp2_with fail
        refine hK.out _ _ ?_ (fun hH2 => ?_)
        · (try dsimp only); have := HX4.out.lt; exact KS.out _ (by repeat (first | exact HX4.out | with_reducible refine Bk.drwN ?_ _ | with_reducible refine Bk.drw ?_ | with_reducible refine Bk.al ?_ _))
        clear hK K hH1
        try simp only [Act.put, setIfInBounds_toArray, set_cons_zero, set_cons_succ]
        refine wpAnyH_ready (rs := [5]) (by kernel_rfl) (by simp) ?_
        refine AllReadyH.cons (o := ⟨some 27, .call { callee := Callee.value (.func 13), args := #[.tmp 22, .tmp 26], argTypes := #[28, 22] }, 34, "law.go:124", #[⟨0, .data⟩, ⟨4, .data⟩, ⟨4, .chain⟩], none⟩) rfl (fun K hK => ?_) (AllReadyH.nil)
        · go_simp
          go_at_call 13; refine (OF.out hx cx X _ HSX.out HMC.out (zi_fz HZ2.out (HC4.out.tr (Ch.of_bel (by repeat (first | exact Bel.rf | with_reducible refine Bel.drwN ?_ _ | with_reducible refine Bel.drw ?_ | with_reducible refine Bel.al ?_ _)))) HFA.out HGL.out) (HOX.out.bel (by repeat (first | exact Bel.rf | with_reducible refine Bel.drwN ?_ _ | with_reducible refine Bel.drw ?_ | with_reducible refine Bel.al ?_ _)))).mono ?_; rintro e x5 ⟨sF, bF, fc, fd, rfl, hzF, hzB, hb5, fF, fB⟩; have HB5 : Hid (Bel x4 x5) := Bel.tr (by repeat (first | exact Bel.rf | with_reducible refine Bel.drwN ?_ _ | with_reducible refine Bel.drw ?_ | with_reducible refine Bel.al ?_ _)) hb5; have HX5 : Hid (Bk x5 v2.heap.size 28 #[.int .i64 k, .int .i64 b, .int .i64 q, .int .i64 (m : Int), .int .i64 (n : Int), .slice A nc cc]) := HX4.out.bel HB5.out; have HZ5 : Hid (Zi x5 sF n (Go.Proofs.Ytgdhgeongdenpaa.Wd.sys k C X m n) ∧ Zi x5 bF n (List.replicate n 4)) := ⟨hzF, hzB⟩; have HF5 : Hid (Fz x4 sF n ∧ Fz x4 bF n) := ⟨fun h0 ad e => Nat.le_trans (by (try simp)) (fF h0 ad e), fun h0 ad e => Nat.le_trans (by (try simp)) (fB h0 ad e)⟩; have HU5 := Lib.hid (HB4.out.bel HB5.out); have hul : v2.heap.size + 1 < x4.heap.size := HB4.out.lt; have HFU : Hid (Fz (x4) sF n ∧ Fz x4 bF n) := HF5.out; have y0 := HU5.out.cell 0; have y1 := HU5.out.cell 1; have z0 := HU5.out.fr 0; have z1 := HU5.out.fr 1; simp only [getElem?_toArray, getElem?_cons_zero, getElem?_cons_succ] at y0 y1; clear hb5 hzF hzB fF fB; unfold Wx
          try go_wp2_with fail
          refine hK.out _ _ ?_ (fun hH3 => ?_)
          · (try dsimp only); have := HX4.out.lt; exact KS.out _ (by repeat (first | exact HX5.out | with_reducible refine Bk.drwN ?_ _ | with_reducible refine Bk.drw ?_ | with_reducible refine Bk.al ?_ _))
          clear hK K hH2
          try simp only [Act.put, setIfInBounds_toArray, set_cons_zero, set_cons_succ]
          refine wpAnyH_take (i := 6) (oi := ⟨some 21, .move (.tmp 27), 34, "law.go:124", #[⟨5, .data⟩], none⟩) (v := ?_) rfl (by kernel_rfl) (by kernel_rfl) (by kernel_rfl) (fun _ _ _ h => h) (Or.inl ⟨by kernel_rfl, ?_⟩) (by assumption) ?_
          rotate_left
          · (intro w hSw; (try dsimp only at hSw); obtain ⟨d0, d1, d2, d3, d4, d5⟩ := hSw; go_simp; try with_reducible rfl)
          try simp only [Act.put, setIfInBounds_toArray, set_cons_zero, set_cons_succ]
          refine wpAnyH_take (i := 7) (oi := ⟨some 28, .extract (.tmp 21) 0, 32, "law.go:124", #[⟨6, .data⟩], none⟩) (v := ?_) rfl (by kernel_rfl) (by kernel_rfl) (by kernel_rfl) (fun _ _ _ h => h) (Or.inl ⟨by kernel_rfl, ?_⟩) (by assumption) ?_
          rotate_left
          · (intro w hSw; (try dsimp only at hSw); obtain ⟨d0, d1, d2, d3, d4, d5⟩ := hSw; go_simp; try with_reducible rfl)
          try simp only [Act.put, setIfInBounds_toArray, set_cons_zero, set_cons_succ]
          refine wpAnyH_take (i := 8) (oi := ⟨some 29, .extract (.tmp 21) 1, 33, "law.go:124", #[⟨6, .data⟩, ⟨10, .gcOnly Departure.lateStores⟩], none⟩) (v := ?_) rfl (by kernel_rfl) (by kernel_rfl) (by kernel_rfl) (fun _ _ _ h => h) (Or.inl ⟨by kernel_rfl, ?_⟩) (by assumption) ?_
          rotate_left
          · (intro w hSw; (try dsimp only at hSw); obtain ⟨d0, d1, d2, d3, d4, d5⟩ := hSw; go_simp; try with_reducible rfl)
          try simp only [Act.put, setIfInBounds_toArray, set_cons_zero, set_cons_succ]
          refine wpAnyH_ready (rs := [10]) (by kernel_rfl) (by simp) ?_
          refine AllReadyH.cons (o := ⟨none, .store 32 (.tmp 5) (.tmp 28), 0, "law.go:124", #[⟨9, .data⟩, ⟨7, .data⟩, ⟨5, .chain⟩, ⟨0, .phase⟩, ⟨1, .phase⟩, ⟨2, .phase⟩, ⟨3, .phase⟩, ⟨4, .phase⟩, ⟨5, .phase⟩, ⟨6, .phase⟩, ⟨7, .phase⟩, ⟨8, .textOnly Departure.lateStores⟩, ⟨9, .phase⟩], none⟩) rfl (fun K hK => ?_) (AllReadyH.nil)
          · go_simp
            try go_wp2_with fail
            refine hK.out _ _ ?_ (fun hH4 => ?_)
            · (try dsimp only); have := HX4.out.lt; exact KS.out _ (by repeat (first | exact HX5.out | with_reducible refine Bk.drwN ?_ _ | with_reducible refine Bk.drw ?_ | with_reducible refine Bk.al ?_ _ | (with_reducible refine Bk.far ?_ (by dsimp only; omega) _)))
            clear hK K hH3
            try simp only [Act.put, setIfInBounds_toArray, set_cons_zero, set_cons_succ]
            refine wpAnyH_take (i := 11) (oi := ⟨some 6, .assign (.tmp 29), 33, "law.go:124", #[⟨8, .data⟩, ⟨10, .chain⟩, ⟨0, .phase⟩, ⟨1, .phase⟩, ⟨2, .phase⟩, ⟨3, .phase⟩, ⟨4, .phase⟩, ⟨5, .phase⟩, ⟨6, .phase⟩, ⟨7, .phase⟩, ⟨8, .phase⟩, ⟨9, .phase⟩, ⟨10, .phase⟩], none⟩) (v := ?_) rfl (by kernel_rfl) (by kernel_rfl) (by kernel_rfl) (fun _ _ _ h => h) (Or.inl ⟨by kernel_rfl, ?_⟩) (by assumption) ?_
            rotate_left
            · (intro w hSw; (try dsimp only at hSw); obtain ⟨d0, d1, d2, d3, d4, d5⟩ := hSw; go_simp; try with_reducible rfl)
            try simp only [Act.put, setIfInBounds_toArray, set_cons_zero, set_cons_succ]
            refine wpAnyH_done (by kernel_rfl) ?_ _
            refine NoPanic.normal ?_
            go_wp2_with fail
            go_meet
            have S4 := HC4.out.sz
            have S6 := HX4.out.lt
            have S7 := HX5.out.lt
            have S5 := HB5.out.size
            have GG := HQ2.out
            have n0 : 0 < n := HN1.out
            exact ⟨(v2.heap.size + 1), sF, bF, fc, fd, Go.Proofs.Ytgdhgeongdenpaa.Wd.sys k C X m n, _, rfl, rfl, rfl, by omega, (HU5.out.st 0 _).st 1 _, sys_wv HS.out.cv k X m n, zi_fz HZ5.out.1 (((Ch.rf (g := (v2.heap.size + 1))).st 0 _).st 1 _) HFU.out.1 (by first | exact hul | (simp; done)), zi_fz HZ5.out.2 (((Ch.rf (g := (v2.heap.size + 1))).st 0 _).st 1 _) HFU.out.2 (by first | exact hul | (simp; done)), (fun h0 ad e => Nat.le_trans S4 (HF5.out.1 h0 ad e)), (fun h0 ad e => Nat.le_trans S4 (HF5.out.2 h0 ad e)), ((HO4.out.bel HB5.out).st (by dsimp only; omega) _).st (by dsimp only; omega) _, ((HC4.out.tr (Ch.of_bel HB5.out)).st2 (by dsimp only; omega) _).st2 (by dsimp only; omega) _, (HX5.out.far (by dsimp only; omega) _).far (by dsimp only; omega) _⟩
  case rest =>
    obtain ⟨u, sF, bF, fc, fd, F, wx, hwx, rfl, rfl, hu, hku, hvF, hzF, hzB, hfF, hfB, hox, hcx, hkx⟩ := hcut
    subst hwx
    have HKX := Lib.hid (And.intro hkx hku)
    have HOX := Lib.hid hox
    have HBX : Hid (Bel w wx) := Bel.ch HB2.out hcx HG.out
    have HZX : Hid (Zi wx A nc C ∧ Zi wx sF n F ∧ Zi wx bF n (List.replicate n 4)) := ⟨zi_fz HZ2.out hcx HFA.out HGL.out, hzF, hzB⟩
    have HFX : Hid (Fz v2 sF n ∧ Fz v2 bF n) := ⟨hfF, hfB⟩
    have HVF := Lib.hid hvF
    have HN8 := Lib.hid n8
    have c0 := hkx.cell 0
    have c1 := hkx.cell 1
    have c2 := hkx.cell 2
    have c3 := hkx.cell 3
    have c4 := hkx.cell 4
    have c5 := hkx.cell 5
    have c6 := hku.cell 0
    have c7 := hku.cell 1
    simp only [getElem?_toArray, getElem?_cons_zero, getElem?_cons_succ] at c0 c1 c2 c3 c4 c5 c6 c7
    have hwl : v2.heap.size < wx.heap.size := hkx.lt
    have HGX : Hid (g < wx.heap.size) := hox.lt
    have HUL : Hid (v2.heap.size < u) := hu
    have BE : Hid (∀ sA bA sc bc S B W, Wv n S B → Zi W A nc C → Zi W sF n F → Zi W bF n (List.replicate n 4) → Zi W sA n S → Zi W bA n B → ∀ bb, decide (Blg n S B F) = bb → Calls Try.prog 18 #[.agg #[.int .i64 k, .int .i64 b, .int .i64 q, .int .i64 (m : Int), .int .i64 (n : Int), .slice A nc cc], .agg #[.slice sA n sc, .slice bA n bc], .agg #[.slice sF n fc, .slice bF n fd]] W fun e w' => e = .returned (.bool bb) ∧ Bel W w') := fun sA bA sc bc S B W hv h1 h2 h3 hS hB bb hbb => by
      rw [← hbb]
      exact belongs_ok k b q m n A sA bA sF bF nc cc sc bc fc fd C S B F _ HS.out hv HVF.out (four_at n) W h1 hS hB h2 h3
    clear hku hvF hzF hzB hfF hfB hox hcx hkx hu LI OF
    go_wp2_with fail
    go_at_call 20
    refine (root_word k b q m n A nc cc C HS.out _ (HZX.out.1.bel (by repeat (first | exact Bel.rf | with_reducible refine Bel.drwN ?_ _ | with_reducible refine Bel.drw ?_ | with_reducible refine Bel.al ?_ _)))).mono ?_
    rintro e y4 ⟨rA, tA, rc, tc, rfl, hzr, hzt, hb, fr, ft⟩
    have HY4 : Hid (Bel wx y4) := Bel.tr (by repeat (first | exact Bel.rf | with_reducible refine Bel.drwN ?_ _ | with_reducible refine Bel.drw ?_ | with_reducible refine Bel.al ?_ _)) hb
    have HYR : Hid (Bel y4 (y4.alloc (.cells #[.slice rA n rc, .slice tA n tc] 32))) := Bel.rf.al _
    have HRZ : Hid (Zi y4 rA n (List.replicate n 0) ∧ Zi y4 tA n (List.replicate n 0)) := ⟨hzr, hzt⟩
    have HRF : Hid (Fz wx rA n ∧ Fz wx tA n) := ⟨fun h0 ad e => Nat.le_trans (by (try simp)) (fr h0 ad e), fun h0 ad e => Nat.le_trans (by (try simp)) (ft h0 ad e)⟩
    have HRB : Hid (Bk (y4.alloc (.cells #[.slice rA n rc, .slice tA n tc] 32)) y4.heap.size 32 #[.slice rA n rc, .slice tA n tc]) := Bk.nw _ _ _
    have q0 := fun o => (HY4.out.al o).kp c0
    have q1 := fun o => (HY4.out.al o).kp c1
    have q2 := fun o => (HY4.out.al o).kp c2
    have q3 := fun o => (HY4.out.al o).kp c3
    have q4 := fun o => (HY4.out.al o).kp c4
    have q5 := fun o => (HY4.out.al o).kp c5
    have q6 := fun o => (HY4.out.al o).kp c6
    have q7 := fun o => (HY4.out.al o).kp c7
    clear hb hzr hzt fr ft c0 c1 c2 c3 c4 c5 c6 c7
    unfold Wx
    go_wp2_with fail
    go_at_call 18
    refine (BE.out rA tA rc tc (List.replicate n 0) (List.replicate n 0) _ (root_wv n) (HZX.out.1.bel (HY4.out.tr (by repeat (first | exact Bel.rf | with_reducible refine Bel.drwN ?_ _ | with_reducible refine Bel.drw ?_ | with_reducible refine Bel.al ?_ _)))) (HZX.out.2.1.bel (HY4.out.tr (by repeat (first | exact Bel.rf | with_reducible refine Bel.drwN ?_ _ | with_reducible refine Bel.drw ?_ | with_reducible refine Bel.al ?_ _)))) (HZX.out.2.2.bel (HY4.out.tr (by repeat (first | exact Bel.rf | with_reducible refine Bel.drwN ?_ _ | with_reducible refine Bel.drw ?_ | with_reducible refine Bel.al ?_ _)))) (HRZ.out.1.bel (by repeat (first | exact Bel.rf | with_reducible refine Bel.drwN ?_ _ | with_reducible refine Bel.drw ?_ | with_reducible refine Bel.al ?_ _))) (HRZ.out.2.bel (by repeat (first | exact Bel.rf | with_reducible refine Bel.drwN ?_ _ | with_reducible refine Bel.drw ?_ | with_reducible refine Bel.al ?_ _))) true (decide_eq_true (blg_root (full_in HVF.out)))).mono ?_
    rintro e y5 ⟨rfl, hb⟩
    have hy5 : Bel (y4.alloc (.cells #[.slice rA n rc, .slice tA n tc] 32)) y5 := Bel.tr (by repeat (first | exact Bel.rf | with_reducible refine Bel.drwN ?_ _ | with_reducible refine Bel.drw ?_ | with_reducible refine Bel.al ?_ _)) hb
    have HY5 : Hid (Bel y4 y5) := HYR.out.tr hy5
    have HWY : Hid (Bel wx y5) := HY4.out.tr HY5.out
    have HRY := Lib.hid (HRB.out.bel hy5)
    have KR : Hid (∀ W, Ch g y5 W → ((fun W => W.cell? ⟨v2.heap.size, 0, none⟩ = some (.int .i64 k) ∧ W.cell? ⟨v2.heap.size, 1, none⟩ = some (.int .i64 b) ∧ W.cell? ⟨v2.heap.size, 2, none⟩ = some (.int .i64 q) ∧ W.cell? ⟨v2.heap.size, 3, none⟩ = some (.int .i64 (m : Int)) ∧ W.cell? ⟨v2.heap.size, 4, none⟩ = some (.int .i64 (n : Int)) ∧ W.cell? ⟨v2.heap.size, 5, none⟩ = some (.slice A nc cc) ∧ W.cell? ⟨u, 0, none⟩ = some (.slice sF n fc) ∧ W.cell? ⟨u, 1, none⟩ = some (.slice bF n fd) ∧ W.cell? ⟨y4.heap.size, 0, none⟩ = some (.slice rA n rc) ∧ W.cell? ⟨y4.heap.size, 1, none⟩ = some (.slice tA n tc))) W) := fun W hW => by
      have u0 := (hW.bk (HKX.out.1.bel HWY.out) (by have := HQ2.out; omega)).cell 0
      have u1 := (hW.bk (HKX.out.1.bel HWY.out) (by have := HQ2.out; omega)).cell 1
      have u2 := (hW.bk (HKX.out.1.bel HWY.out) (by have := HQ2.out; omega)).cell 2
      have u3 := (hW.bk (HKX.out.1.bel HWY.out) (by have := HQ2.out; omega)).cell 3
      have u4 := (hW.bk (HKX.out.1.bel HWY.out) (by have := HQ2.out; omega)).cell 4
      have u5 := (hW.bk (HKX.out.1.bel HWY.out) (by have := HQ2.out; omega)).cell 5
      have u6 := (hW.bk (HKX.out.2.bel HWY.out) (by have := HQ2.out; have := HUL.out; omega)).cell 0
      have u7 := (hW.bk (HKX.out.2.bel HWY.out) (by have := HQ2.out; have := HUL.out; omega)).cell 1
      have u8 := (hW.bk HRY.out (by have := HGX.out; have := HY4.out.size; omega)).cell 0
      have u9 := (hW.bk HRY.out (by have := HGX.out; have := HY4.out.size; omega)).cell 1
      simp only [getElem?_toArray, getElem?_cons_zero, getElem?_cons_succ] at u0 u1 u2 u3 u4 u5 u6 u7 u8 u9
      exact ⟨u0, u1, u2, u3, u4, u5, u6, u7, u8, u9⟩
    clear hb hy5 q0 q1 q2 q3 q4 q5 q6 q7
    go_upto_region 7 with fail
    refine wp_region_noPanic ?_
    refine wp_region_held_drew (S := fun W => W.cell? ⟨v2.heap.size, 0, none⟩ = some (.int .i64 k) ∧ W.cell? ⟨v2.heap.size, 1, none⟩ = some (.int .i64 b) ∧ W.cell? ⟨v2.heap.size, 2, none⟩ = some (.int .i64 q) ∧ W.cell? ⟨v2.heap.size, 3, none⟩ = some (.int .i64 (m : Int)) ∧ W.cell? ⟨v2.heap.size, 4, none⟩ = some (.int .i64 (n : Int)) ∧ W.cell? ⟨v2.heap.size, 5, none⟩ = some (.slice A nc cc) ∧ W.cell? ⟨u, 0, none⟩ = some (.slice sF n fc) ∧ W.cell? ⟨u, 1, none⟩ = some (.slice bF n fd) ∧ W.cell? ⟨y4.heap.size, 0, none⟩ = some (.slice rA n rc) ∧ W.cell? ⟨y4.heap.size, 1, none⟩ = some (.slice tA n tc)) (by kernel_rfl) ?_ (fun hH0 => ?_)
    · (try dsimp only); exact KR.out _ (by repeat (first | exact HC6.out | exact HC3.out | exact Ch.rf | with_reducible refine Ch.drwN ?_ _ | with_reducible refine Ch.drw ?_ | with_reducible refine Ch.al ?_ _))
    refine wpAnyH_take (i := 0) (oi := ⟨some 48, .load 32 (.tmp 7), 32, "law.go:129", #[], none⟩) (v := ?_) rfl (by kernel_rfl) (by kernel_rfl) (by kernel_rfl) (fun _ _ _ h => h) (Or.inl ⟨by kernel_rfl, ?_⟩) (by assumption) ?_
    rotate_left
    · (intro w hSw; (try dsimp only at hSw); obtain ⟨d0, d1, d2, d3, d4, d5, d6, d7, d8, d9⟩ := hSw; go_simp; try with_reducible rfl)
    try simp only [Act.put, setIfInBounds_toArray, set_cons_zero, set_cons_succ]
    refine wpAnyH_take (i := 1) (oi := ⟨some 49, .move (.tmp 3), 23, "law.go:129", #[], none⟩) (v := ?_) rfl (by kernel_rfl) (by kernel_rfl) (by kernel_rfl) (fun _ _ _ h => h) (Or.inl ⟨by kernel_rfl, ?_⟩) (by assumption) ?_
    rotate_left
    · (intro w hSw; (try dsimp only at hSw); obtain ⟨d0, d1, d2, d3, d4, d5, d6, d7, d8, d9⟩ := hSw; go_simp; try with_reducible rfl)
    try simp only [Act.put, setIfInBounds_toArray, set_cons_zero, set_cons_succ]
    refine wpAnyH_take (i := 2) (oi := ⟨some 50, .load 28 (.tmp 4), 28, "law.go:129", #[], none⟩) (v := ?_) rfl (by kernel_rfl) (by kernel_rfl) (by kernel_rfl) (fun _ _ _ h => h) (Or.inl ⟨by kernel_rfl, ?_⟩) (by assumption) ?_
    rotate_left
    · (intro w hSw; (try dsimp only at hSw); obtain ⟨d0, d1, d2, d3, d4, d5, d6, d7, d8, d9⟩ := hSw; go_simp; try with_reducible rfl)
    try simp only [Act.put, setIfInBounds_toArray, set_cons_zero, set_cons_succ]
    refine wpAnyH_take (i := 4) (oi := ⟨some 52, .move (.tmp 3), 23, "law.go:129", #[], none⟩) (v := ?_) rfl (by kernel_rfl) (by kernel_rfl) (by kernel_rfl) (fun _ _ _ h => h) (Or.inl ⟨by kernel_rfl, ?_⟩) (by assumption) ?_
    rotate_left
    · (intro w hSw; (try dsimp only at hSw); obtain ⟨d0, d1, d2, d3, d4, d5, d6, d7, d8, d9⟩ := hSw; go_simp; try with_reducible rfl)
    try simp only [Act.put, setIfInBounds_toArray, set_cons_zero, set_cons_succ]
    refine wpAnyH_take (i := 5) (oi := ⟨some 53, .load 32 (.tmp 5), 32, "law.go:129", #[], none⟩) (v := ?_) rfl (by kernel_rfl) (by kernel_rfl) (by kernel_rfl) (fun _ _ _ h => h) (Or.inl ⟨by kernel_rfl, ?_⟩) (by assumption) ?_
    rotate_left
    · (intro w hSw; (try dsimp only at hSw); obtain ⟨d0, d1, d2, d3, d4, d5, d6, d7, d8, d9⟩ := hSw; go_simp; try with_reducible rfl)
    try simp only [Act.put, setIfInBounds_toArray, set_cons_zero, set_cons_succ]
    refine wpAnyH_take (i := 9) (oi := ⟨some 57, .move (.const (.int IntKind.i64 0)), 3, "law.go:129", #[], none⟩) (v := ?_) rfl (by kernel_rfl) (by kernel_rfl) (by kernel_rfl) (fun _ _ _ h => h) (Or.inl ⟨by kernel_rfl, ?_⟩) (by assumption) ?_
    rotate_left
    · (intro w hSw; (try dsimp only at hSw); obtain ⟨d0, d1, d2, d3, d4, d5, d6, d7, d8, d9⟩ := hSw; go_simp; try with_reducible rfl)
    try simp only [Act.put, setIfInBounds_toArray, set_cons_zero, set_cons_succ]
    refine wpAnyH_ready (rs := [3]) (by kernel_rfl) (by simp) ?_
    refine AllReadyH.cons (o := ⟨some 51, .call { callee := Callee.value (.func 15), args := #[.tmp 49, .tmp 50], argTypes := #[23, 28] }, 32, "law.go:129", #[⟨1, .data⟩, ⟨2, .data⟩], none⟩) rfl (fun K hK => ?_) AllReadyH.nil
    go_simp
    go_at_call 15; refine (word_any g k b q m n HN8.out A nc cc _ ((HOX.out.bel HWY.out).bel (by repeat (first | exact Bel.rf | with_reducible refine Bel.drwN ?_ _ | with_reducible refine Bel.drw ?_ | with_reducible refine Bel.al ?_ _)))).mono ?_; rintro e x3 ⟨sA, bA, sc, bc, S, B, rfl, hv, hS, hB, ho3, hc3, fS, fB⟩; have HC3 : Hid (Ch g y5 x3) := (Ch.of_bel (by repeat (first | exact Bel.rf | with_reducible refine Bel.drwN ?_ _ | with_reducible refine Bel.drw ?_ | with_reducible refine Bel.al ?_ _))).tr hc3; have HO3 := Lib.hid ho3; have HV3 : Hid (Wv n S B ∧ Zi x3 sA n S ∧ Zi x3 bA n B) := ⟨hv, hS, hB⟩; have HF3 : Hid (Fz y5 sA n ∧ Fz y5 bA n) := ⟨fun h0 ad e => Nat.le_trans (by (try simp)) (fS h0 ad e), fun h0 ad e => Nat.le_trans (by (try simp)) (fB h0 ad e)⟩; clear hv hS hB ho3 hc3 fS fB; unfold Wx
    try go_wp2_with fail
    refine hK.out _ _ ?_ (fun hH1 => ?_)
    · (try dsimp only); exact KR.out _ (by repeat (first | exact HC6.out | exact HC3.out | exact Ch.rf | with_reducible refine Ch.drwN ?_ _ | with_reducible refine Ch.drw ?_ | with_reducible refine Ch.al ?_ _))
    clear hK K hH0
    try simp only [Act.put, setIfInBounds_toArray, set_cons_zero, set_cons_succ]
    refine wpAnyH_ready (rs := [6]) (by kernel_rfl) (by simp) ?_
    refine AllReadyH.cons (o := ⟨some 54, .call { callee := Callee.value (.func 16), args := #[.tmp 52, .tmp 53], argTypes := #[23, 32] }, 32, "law.go:129", #[⟨4, .data⟩, ⟨5, .data⟩, ⟨3, .chain⟩], none⟩) rfl (fun K hK => ?_) AllReadyH.nil
    go_simp
    go_at_call 16; refine (upper_any g n HN1.out HN8.out sF bF fc fd F (full_in HVF.out) _ (HO3.out.bel (by repeat (first | exact Bel.rf | with_reducible refine Bel.drwN ?_ _ | with_reducible refine Bel.drw ?_ | with_reducible refine Bel.al ?_ _))) (zi_fz (HZX.out.2.1.bel HWY.out) (HC3.out.tr (Ch.of_bel (by repeat (first | exact Bel.rf | with_reducible refine Bel.drwN ?_ _ | with_reducible refine Bel.drw ?_ | with_reducible refine Bel.al ?_ _)))) HFX.out.1 HQ2.out) (HFX.out.1.ne HN1.out HQ2.out)).mono ?_; rintro e x6 ⟨sU, bU, uc, vc, SU, BU, rfl, hvU, hus, hSU, hBU, ho6, hc6, fSU, fBU⟩; have HC6 : Hid (Ch g y5 x6) := HC3.out.tr ((Ch.of_bel (by repeat (first | exact Bel.rf | with_reducible refine Bel.drwN ?_ _ | with_reducible refine Bel.drw ?_ | with_reducible refine Bel.al ?_ _))).tr hc6); have HC36 : Hid (Ch g x3 x6) := (Ch.of_bel (by repeat (first | exact Bel.rf | with_reducible refine Bel.drwN ?_ _ | with_reducible refine Bel.drw ?_ | with_reducible refine Bel.al ?_ _))).tr hc6; have HO6 := Lib.hid ho6; have HV6 : Hid (Wv n SU BU ∧ Zi x6 sU n SU ∧ Zi x6 bU n BU) := ⟨hvU, hSU, hBU⟩; have HF6 : Hid (Fz x3 sU n ∧ Fz x3 bU n) := ⟨fun h0 ad e => Nat.le_trans (by (try simp)) (fSU h0 ad e), fun h0 ad e => Nat.le_trans (by (try simp)) (fBU h0 ad e)⟩; clear hvU hus hSU hBU ho6 hc6 fSU fBU; unfold Wx
    try go_wp2_with fail
    refine hK.out _ _ ?_ (fun hH2 => ?_)
    · (try dsimp only); exact KR.out _ (by repeat (first | exact HC6.out | exact HC3.out | exact Ch.rf | with_reducible refine Ch.drwN ?_ _ | with_reducible refine Ch.drw ?_ | with_reducible refine Ch.al ?_ _))
    clear hK K hH1
    try simp only [Act.put, setIfInBounds_toArray, set_cons_zero, set_cons_succ]
    refine wpAnyH_ready (rs := [7]) (by kernel_rfl) (by simp) ?_
    refine AllReadyH.cons (o := ⟨some 55, .buildSlice 40 3 #[(0, .tmp 48), (1, .tmp 51), (2, .tmp 54)], 40, "law.go:129", #[⟨0, .data⟩, ⟨3, .data⟩, ⟨6, .data⟩], none⟩) rfl (fun K hK => ?_) AllReadyH.nil
    go_simp
    skip
    try go_wp2_with fail
    refine hK.out _ _ ?_ (fun hH3 => ?_)
    · (try dsimp only); exact KR.out _ (by repeat (first | exact HC6.out | exact HC3.out | exact Ch.rf | with_reducible refine Ch.drwN ?_ _ | with_reducible refine Ch.drw ?_ | with_reducible refine Ch.al ?_ _))
    clear hK K hH2
    try simp only [Act.put, setIfInBounds_toArray, set_cons_zero, set_cons_succ]
    refine wpAnyH_take (i := 8) (oi := ⟨some 56, .call { callee := Callee.builtin Builtin.len, args := #[.tmp 55], argTypes := #[40] }, 3, "law.go:129", #[⟨7, .data⟩], none⟩) (v := ?_) rfl (by kernel_rfl) (by kernel_rfl) (by kernel_rfl) (fun _ _ _ h => h) (Or.inl ⟨by kernel_rfl, ?_⟩) (by assumption) ?_
    rotate_left
    · (intro w hSw; (try dsimp only at hSw); obtain ⟨d0, d1, d2, d3, d4, d5, d6, d7, d8, d9⟩ := hSw; go_simp; try with_reducible rfl)
    try simp only [Act.put, setIfInBounds_toArray, set_cons_zero, set_cons_succ]
    refine wpAnyH_done (by kernel_rfl) ?_ _
    refine NoPanic.normal ?_
    have HXR : Hid (Ch g y5 (x6.alloc (.cells #[.slice rA n rc, .slice tA n tc, .slice sA n sc, .slice bA n bc, .slice sU n uc, .slice bU n vc] 32))) := HC6.out.al _
    have HXK : Hid (Bk (x6.alloc (.cells #[.slice rA n rc, .slice tA n tc, .slice sA n sc, .slice bA n bc, .slice sU n uc, .slice bU n vc] 32)) x6.heap.size 32 #[.slice rA n rc, .slice tA n tc, .slice sA n sc, .slice bA n bc, .slice sU n uc, .slice bU n vc]) := Bk.nw _ _ _
    have HG5 : Hid (g < y5.heap.size) := (by have := HGX.out; have := HWY.out.size; omega : _ < _)
    have HW3 : Hid (∀ i, i < 3 → ∃ oA oB oc od OS OB, Wv n OS OB ∧ ∀ V, Ch g (x6.alloc (.cells #[.slice rA n rc, .slice tA n tc, .slice sA n sc, .slice bA n bc, .slice sU n uc, .slice bU n vc] 32)) V → V.cell? ⟨x6.heap.size, i * 2, none⟩ = some (.slice oA n oc) ∧ V.cell? ⟨x6.heap.size, i * 2 + 1, none⟩ = some (.slice oB n od) ∧ Zi V oA n OS ∧ Zi V oB n OB) := fun i hi => by
      have nx : x6.heap.size ≠ g := by have := HO6.out.lt; omega
      rcases (by omega : i = 0 ∨ i = 1 ∨ i = 2) with rfl | rfl | rfl
      · refine ⟨rA, tA, rc, tc, _, _, root_wv n, fun V hV => ?_⟩
        have a0 := (hV.bk HXK.out nx).cell 0
        have a1 := (hV.bk HXK.out nx).cell 1
        simp only [getElem?_toArray, getElem?_cons_zero, getElem?_cons_succ] at a0 a1
        exact ⟨a0, a1, zi_fz (HRZ.out.1.bel HY5.out) (HXR.out.tr hV) HRF.out.1 HGX.out, zi_fz (HRZ.out.2.bel HY5.out) (HXR.out.tr hV) HRF.out.2 HGX.out⟩
      · refine ⟨sA, bA, sc, bc, _, _, HV3.out.1, fun V hV => ?_⟩
        have a0 := (hV.bk HXK.out nx).cell 2
        have a1 := (hV.bk HXK.out nx).cell 3
        simp only [getElem?_toArray, getElem?_cons_zero, getElem?_cons_succ] at a0 a1
        exact ⟨a0, a1, zi_fz HV3.out.2.1 ((HC36.out.al _).tr hV) HF3.out.1 HG5.out, zi_fz HV3.out.2.2 ((HC36.out.al _).tr hV) HF3.out.2 HG5.out⟩
      · refine ⟨sU, bU, uc, vc, _, _, HV6.out.1, fun V hV => ?_⟩
        have a0 := (hV.bk HXK.out nx).cell 4
        have a1 := (hV.bk HXK.out nx).cell 5
        simp only [getElem?_toArray, getElem?_cons_zero, getElem?_cons_succ] at a0 a1
        exact ⟨a0, a1, zi_fz HV6.out.2.1 (((Ch.rf (g := g)).al _).tr hV) HF6.out.1 HO3.out.lt, zi_fz HV6.out.2.2 (((Ch.rf (g := g)).al _).tr hV) HF6.out.2 HO3.out.lt⟩
    have HQ : Hid (∀ V, Ch g (x6.alloc (.cells #[.slice rA n rc, .slice tA n tc, .slice sA n sc, .slice bA n bc, .slice sU n uc, .slice bU n vc] 32)) V → (fun W => W.cell? ⟨v2.heap.size, 0, none⟩ = some (.int .i64 k) ∧ W.cell? ⟨v2.heap.size, 1, none⟩ = some (.int .i64 b) ∧ W.cell? ⟨v2.heap.size, 2, none⟩ = some (.int .i64 q) ∧ W.cell? ⟨v2.heap.size, 3, none⟩ = some (.int .i64 (m : Int)) ∧ W.cell? ⟨v2.heap.size, 4, none⟩ = some (.int .i64 (n : Int)) ∧ W.cell? ⟨v2.heap.size, 5, none⟩ = some (.slice A nc cc) ∧ W.cell? ⟨u, 0, none⟩ = some (.slice sF n fc) ∧ W.cell? ⟨u, 1, none⟩ = some (.slice bF n fd)) V ∧ Zi V A nc C ∧ Zi V sF n F ∧ Zi V bF n (List.replicate n 4) ∧ Bel w V) := fun V hV => by
      obtain ⟨d0, d1, d2, d3, d4, d5, d6, d7, _, _⟩ := KR.out V (HXR.out.tr hV)
      exact ⟨⟨d0, d1, d2, d3, d4, d5, d6, d7⟩, zi_fz (HZX.out.1.bel HWY.out) (HXR.out.tr hV) HFA.out HGL.out, zi_fz (HZX.out.2.1.bel HWY.out) (HXR.out.tr hV) HFX.out.1 HQ2.out, zi_fz (HZX.out.2.2.bel HWY.out) (HXR.out.tr hV) HFX.out.2 HQ2.out, Bel.ch (HBX.out.tr HWY.out) (HXR.out.tr hV) HG.out⟩
    obtain ⟨h0, hh0⟩ : ∃ h, x6.heap.size = h := ⟨_, rfl⟩
    rw [hh0] at HW3
    go_wp2_with fail
    go_loopw [57] (fun s wr => ∃ (i : Nat) (V : World), V = wr ∧ i ≤ 3 ∧ s = .int .i64 (i : Int) ∧ Ok wr g ∧ Ch g (x6.alloc (.cells #[.slice rA n rc, .slice tA n tc, .slice sA n sc, .slice bA n bc, .slice sU n uc, .slice bU n vc] 32)) wr) (fun s _ => 3 - (intOf s).toNat)
    case atStart => exact ⟨0, _, rfl, by omega, rfl, HO6.out.bel (by repeat (first | exact Bel.rf | with_reducible refine Bel.drwN ?_ _ | with_reducible refine Bel.drw ?_ | with_reducible refine Bel.al ?_ _)), (by repeat (first | exact Ch.rf | with_reducible refine Ch.drwN ?_ _ | with_reducible refine Ch.drw ?_ | with_reducible refine Ch.al ?_ _))⟩
    case round =>
      obtain ⟨i, wr, hwr, hi, rfl, hor, hcr⟩ := hrel
      subst hwr
      have HOR := Lib.hid hor
      have HCR := Lib.hid hcr
      clear hor hcr
      rcases Nat.lt_or_ge i 3 with hlt | hge
      · have ii : (i : Int) < 3 := by omega
        have i0 : (0 : Int) ≤ (i : Int) := by omega
        obtain ⟨pA, tB, pc, tb, P, T, hvP, hPV⟩ := HW3.out i hlt
        have HVP := Lib.hid hvP
        have HPV := Lib.hid hPV
        obtain ⟨x0, x1, _, _⟩ := hPV wr HCR.out
        obtain ⟨⟨d0, d1, d2, d3, d4, d5, d6, d7⟩, _⟩ := HQ.out wr HCR.out
        have q4 := fun o => (Bel.rf.al o).kp d4
        clear hvP hPV d0 d1 d2 d3 d4 d5 d6 d7
        go_wp2_with fail
        go_at_call 21
        refine (n_any g (n : Int) ni1 (by omega) _ (HOR.out.bel (by repeat (first | exact Bel.rf | with_reducible refine Bel.drwN ?_ _ | with_reducible refine Bel.drw ?_ | with_reducible refine Bel.al ?_ _)))).mono ?_
        rintro e v9 ⟨y, rfl, y0, yn, ho, hc⟩
        obtain ⟨p, rfl⟩ := Int.eq_ofNat_of_zero_le y0
        have hc9 : Ch g wr v9 := (Ch.of_bel (by repeat (first | exact Bel.rf | with_reducible refine Bel.drwN ?_ _ | with_reducible refine Bel.drw ?_ | with_reducible refine Bel.al ?_ _))).tr hc
        have HO9 := Lib.hid ho
        have HC9 : Hid (Ch g (x6.alloc (.cells #[.slice rA n rc, .slice tA n tc, .slice sA n sc, .slice bA n bc, .slice sU n uc, .slice bU n vc] 32)) v9) := HCR.out.tr hc9
        have HBX9 : Hid (Bk v9 wr.heap.size 32 #[.slice pA n pc, .slice tB n tb]) := hc.bk (by repeat (first | (refine Bk.nq _ _ _ ?_; simp; done) | with_reducible refine Bk.drwN ?_ _ | with_reducible refine Bk.drw ?_ | with_reducible refine Bk.al ?_ _)) (by have := HOR.out.lt; omega)
        have HPN : Hid (p < n) := (by omega : _ < _)
        obtain ⟨⟨q0, q1, q2, q3, q4', q5, q6, q7⟩, z1, z2, z3, hbw⟩ := HQ.out v9 HC9.out
        obtain ⟨_, _, hzP, hzT⟩ := HPV.out v9 HC9.out
        have HZ9 : Hid (Zi v9 A nc C ∧ Zi v9 pA n P ∧ Zi v9 tB n T) := ⟨z1, hzP, hzT⟩
        have HBW9 := Lib.hid hbw
        have r0 := HBX9.out.cell 0
        have r1 := HBX9.out.cell 1
        simp only [getElem?_toArray, getElem?_cons_zero, getElem?_cons_succ] at r0 r1
        obtain ⟨tad, e', _, _⟩ := hzT.2 HN1.out
        subst e'
        have HBD : Hid (∀ W, Bel v9 W → W.cell? (tad.add p) = some (.int .i64 (T.getD p 0))) := fun W hW => by
          obtain ⟨ad', e', _, hd⟩ := (HZ9.out.2.2.bel hW).2 HN1.out
          cases e'
          exact hd p HPN.out
        have pp : (p : Int) < (n : Int) := by omega
        have pp0 : (0 : Int) ≤ (p : Int) := by omega
        clear y0 yn ho hc hc9 q4 x0 x1 z1 z2 z3 hbw hzP hzT
        go_wp2_with fail
        go_at_call 22
        refine (split_ok k b q m n A pA (some tad) nc cc pc tb C P T HS.out HVP.out p HPN.out _ (HZ9.out.1.bel (by repeat (first | exact Bel.rf | with_reducible refine Bel.drwN ?_ _ | with_reducible refine Bel.drw ?_ | with_reducible refine Bel.al ?_ _))) (HZ9.out.2.1.bel (by repeat (first | exact Bel.rf | with_reducible refine Bel.drwN ?_ _ | with_reducible refine Bel.drw ?_ | with_reducible refine Bel.al ?_ _))) (HZ9.out.2.2.bel (by repeat (first | exact Bel.rf | with_reducible refine Bel.drwN ?_ _ | with_reducible refine Bel.drw ?_ | with_reducible refine Bel.al ?_ _)))).mono ?_
        rintro e v5 ⟨h4, hn4, hb5⟩
        have HB5 : Hid (Bel v9 v5) := Bel.tr (by repeat (first | exact Bel.rf | with_reducible refine Bel.drwN ?_ _ | with_reducible refine Bel.drw ?_ | with_reducible refine Bel.al ?_ _)) hb5
        by_cases hy : T.getD p 0 = 4
        · obtain rfl := h4 hy
          rw [hy] at HBD
          have d1 := fun o o2 => ((Bel.rf.al o).al o2).kp (HBD.out v5 HB5.out)
          have x1 := fun o o2 => ((Bel.rf.al o).al o2).kp (HB5.out.kp r1)
          have HOV : Hid (Ok v5 g ∧ Ch g (x6.alloc (.cells #[.slice rA n rc, .slice tA n tc, .slice sA n sc, .slice bA n bc, .slice sU n uc, .slice bU n vc] 32)) v5) := ⟨HO9.out.bel HB5.out, HC9.out.tr (Ch.of_bel HB5.out)⟩
          clear h4 hn4 hb5 q0 q1 q2 q3 q4' q5 q6 q7 r0 r1 hy
          go_wp2
          go_roundw
          case rel => exact ⟨i + 1, _, rfl, by omega, by go_num, HOV.out.1.bel (by repeat (first | exact Bel.rf | with_reducible refine Bel.drwN ?_ _ | with_reducible refine Bel.drw ?_ | with_reducible refine Bel.al ?_ _)), (by repeat (first | exact HOV.out.2 | with_reducible refine Ch.drwN ?_ _ | with_reducible refine Ch.drw ?_ | with_reducible refine Ch.al ?_ _))⟩
          case measure => simp [intOf]; omega
        · obtain ⟨s1, b1, s2, b2, e1, f1, e2, f2, rfl, hz1, hz2, hz3, hz4⟩ := hn4 hy
          have HV1 : Hid (Wv n (P.set p (2 * P.getD p 0 + 0)) (T.set p (T.getD p 0 + 1))) := wv_split HVP.out HPN.out hy 0 (by decide) (by decide)
          have HV2 : Hid (Wv n (P.set p (2 * P.getD p 0 + 1)) (T.set p (T.getD p 0 + 1))) := wv_split HVP.out HPN.out hy 1 (by decide) (by decide)
          have hbs := blg_split (F := F) HVP.out HPN.out hy
          obtain ⟨eO, hO⟩ : ∃ x, decide (Blg n P T F) = x := ⟨_, rfl⟩
          obtain ⟨eL, hL⟩ : ∃ x, decide (Blg n (P.set p (2 * P.getD p 0 + 0)) (T.set p (T.getD p 0 + 1)) F) = x := ⟨_, rfl⟩
          obtain ⟨eR, hR⟩ : ∃ x, decide (Blg n (P.set p (2 * P.getD p 0 + 1)) (T.set p (T.getD p 0 + 1)) F) = x := ⟨_, rfl⟩
          have HMB : Hid (eO = (eL || eR) ∧ (eL && eR) = false) := by
            show _ ∧ _
            subst hO hL hR
            exact bool_split hbs.1 hbs.2
          have HZ5 : Hid (Zi v5 A nc C ∧ Zi v5 sF n F ∧ Zi v5 bF n (List.replicate n 4)) := by
            obtain ⟨_, z1, z2, z3, _⟩ := HQ.out v9 HC9.out
            exact ⟨z1.bel HB5.out, z2.bel HB5.out, z3.bel HB5.out⟩
          have BO : Hid (∀ W, Bel v5 W → Calls Try.prog 18 #[.agg #[.int .i64 k, .int .i64 b, .int .i64 q, .int .i64 (m : Int), .int .i64 (n : Int), .slice A nc cc], .agg #[.slice pA n pc, .slice (some tad) n tb], .agg #[.slice sF n fc, .slice bF n fd]] W fun e w' => e = .returned (.bool eO) ∧ Bel W w') := fun W hW => BE.out _ _ _ _ P T W HVP.out (HZ5.out.1.bel hW) (HZ5.out.2.1.bel hW) (HZ5.out.2.2.bel hW) (HZ9.out.2.1.bel (HB5.out.tr hW)) (HZ9.out.2.2.bel (HB5.out.tr hW)) eO hO
          have BL : Hid (∀ W, Bel v5 W → Calls Try.prog 18 #[.agg #[.int .i64 k, .int .i64 b, .int .i64 q, .int .i64 (m : Int), .int .i64 (n : Int), .slice A nc cc], .agg #[.slice s1 n e1, .slice b1 n f1], .agg #[.slice sF n fc, .slice bF n fd]] W fun e w' => e = .returned (.bool eL) ∧ Bel W w') := fun W hW => BE.out _ _ _ _ _ _ W HV1.out (HZ5.out.1.bel hW) (HZ5.out.2.1.bel hW) (HZ5.out.2.2.bel hW) (hz1.bel hW) (hz2.bel hW) eL hL
          have BR : Hid (∀ W, Bel v5 W → Calls Try.prog 18 #[.agg #[.int .i64 k, .int .i64 b, .int .i64 q, .int .i64 (m : Int), .int .i64 (n : Int), .slice A nc cc], .agg #[.slice s2 n e2, .slice b2 n f2], .agg #[.slice sF n fc, .slice bF n fd]] W fun e w' => e = .returned (.bool eR) ∧ Bel W w') := fun W hW => BE.out _ _ _ _ _ _ W HV2.out (HZ5.out.1.bel hW) (HZ5.out.2.1.bel hW) (HZ5.out.2.2.bel hW) (hz3.bel hW) (hz4.bel hW) eR hR
          have HVW : Hid (Bel v5 ((v5.alloc (.cells #[.slice s1 n e1, .slice b1 n f1] 32)).alloc (.cells #[.slice s2 n e2, .slice b2 n f2] 32))) := (Bel.rf.al _).al _
          have HXA : Hid (Bk ((v5.alloc (.cells #[.slice s1 n e1, .slice b1 n f1] 32)).alloc (.cells #[.slice s2 n e2, .slice b2 n f2] 32)) v5.heap.size 32 #[.slice s1 n e1, .slice b1 n f1] ∧ Bk ((v5.alloc (.cells #[.slice s1 n e1, .slice b1 n f1] 32)).alloc (.cells #[.slice s2 n e2, .slice b2 n f2] 32)) (v5.heap.size + 1) 32 #[.slice s2 n e2, .slice b2 n f2]) := ⟨(Bk.nw _ _ _).al _, Bk.nq _ _ _ (by simp)⟩
          have KV : Hid (∀ W, Bel ((v5.alloc (.cells #[.slice s1 n e1, .slice b1 n f1] 32)).alloc (.cells #[.slice s2 n e2, .slice b2 n f2] 32)) W → ((fun W => W.cell? ⟨v2.heap.size, 0, none⟩ = some (.int .i64 k) ∧ W.cell? ⟨v2.heap.size, 1, none⟩ = some (.int .i64 b) ∧ W.cell? ⟨v2.heap.size, 2, none⟩ = some (.int .i64 q) ∧ W.cell? ⟨v2.heap.size, 3, none⟩ = some (.int .i64 (m : Int)) ∧ W.cell? ⟨v2.heap.size, 4, none⟩ = some (.int .i64 (n : Int)) ∧ W.cell? ⟨v2.heap.size, 5, none⟩ = some (.slice A nc cc) ∧ W.cell? ⟨u, 0, none⟩ = some (.slice sF n fc) ∧ W.cell? ⟨u, 1, none⟩ = some (.slice bF n fd) ∧ W.cell? ⟨v5.heap.size, 0, none⟩ = some (.slice s1 n e1) ∧ W.cell? ⟨v5.heap.size, 1, none⟩ = some (.slice b1 n f1) ∧ W.cell? ⟨v5.heap.size + 1, 0, none⟩ = some (.slice s2 n e2) ∧ W.cell? ⟨v5.heap.size + 1, 1, none⟩ = some (.slice b2 n f2) ∧ W.cell? ⟨wr.heap.size, 0, none⟩ = some (.slice pA n pc) ∧ W.cell? ⟨wr.heap.size, 1, none⟩ = some (.slice (some tad) n tb))) W) := fun W hW => by
            obtain ⟨⟨d0, d1, d2, d3, d4, d5, d6, d7⟩, _⟩ := HQ.out W (HC9.out.tr (Ch.of_bel (HB5.out.tr (HVW.out.tr hW))))
            have u0 := (HXA.out.1.bel hW).cell 0
            have u1 := (HXA.out.1.bel hW).cell 1
            have u2 := (HXA.out.2.bel hW).cell 0
            have u3 := (HXA.out.2.bel hW).cell 1
            have u4 := (HBX9.out.bel (HB5.out.tr (HVW.out.tr hW))).cell 0
            have u5 := (HBX9.out.bel (HB5.out.tr (HVW.out.tr hW))).cell 1
            simp only [getElem?_toArray, getElem?_cons_zero, getElem?_cons_succ] at u0 u1 u2 u3 u4 u5
            exact ⟨d0, d1, d2, d3, d4, d5, d6, d7, u0, u1, u2, u3, u4, u5⟩
          have d1 := fun o o2 => ((Bel.rf.al o).al o2).kp (HBD.out v5 HB5.out)
          have x1 := fun o o2 => ((Bel.rf.al o).al o2).kp (HB5.out.kp r1)
          obtain ⟨bp, hbp⟩ : ∃ x, T.getD p 0 = x := ⟨_, rfl⟩
          rw [hbp] at hy d1
          have hy' : (bp == 4) = false := by simpa using hy
          clear h4 hn4 hb5 q0 q1 q2 q3 q4' q5 q6 q7 r0 r1 hz1 hz2 hz3 hz4 hbp hbs hO hL hR
          unfold Wx
          go_wp2_with fail
          refine wp_region_noPanic ?_
          refine wp_region_held_drew (S := fun W => W.cell? ⟨v2.heap.size, 0, none⟩ = some (.int .i64 k) ∧ W.cell? ⟨v2.heap.size, 1, none⟩ = some (.int .i64 b) ∧ W.cell? ⟨v2.heap.size, 2, none⟩ = some (.int .i64 q) ∧ W.cell? ⟨v2.heap.size, 3, none⟩ = some (.int .i64 (m : Int)) ∧ W.cell? ⟨v2.heap.size, 4, none⟩ = some (.int .i64 (n : Int)) ∧ W.cell? ⟨v2.heap.size, 5, none⟩ = some (.slice A nc cc) ∧ W.cell? ⟨u, 0, none⟩ = some (.slice sF n fc) ∧ W.cell? ⟨u, 1, none⟩ = some (.slice bF n fd) ∧ W.cell? ⟨v5.heap.size, 0, none⟩ = some (.slice s1 n e1) ∧ W.cell? ⟨v5.heap.size, 1, none⟩ = some (.slice b1 n f1) ∧ W.cell? ⟨v5.heap.size + 1, 0, none⟩ = some (.slice s2 n e2) ∧ W.cell? ⟨v5.heap.size + 1, 1, none⟩ = some (.slice b2 n f2) ∧ W.cell? ⟨wr.heap.size, 0, none⟩ = some (.slice pA n pc) ∧ W.cell? ⟨wr.heap.size, 1, none⟩ = some (.slice (some tad) n tb)) (by kernel_rfl) ?_ (fun hH0 => ?_)
          · (try dsimp only); exact KV.out _ (by repeat (first | exact HBy9.out | exact HBy8.out | exact HBy7.out | exact Bel.rf | with_reducible refine Bel.drwN ?_ _ | with_reducible refine Bel.drw ?_ | with_reducible refine Bel.al ?_ _))
          refine wpAnyH_take (i := 0) (oi := ⟨some 81, .load 28 (.tmp 4), 28, "law.go:138", #[], none⟩) (v := ?_) rfl (by kernel_rfl) (by kernel_rfl) (by kernel_rfl) (fun _ _ _ h => h) (Or.inl ⟨by kernel_rfl, ?_⟩) (by assumption) ?_
          rotate_left
          · (intro w hSw; (try dsimp only at hSw); obtain ⟨d0, d1, d2, d3, d4, d5, d6, d7, d8, d9, d10, d11, d12, d13⟩ := hSw; go_simp; try with_reducible rfl)
          try simp only [Act.put, setIfInBounds_toArray, set_cons_zero, set_cons_succ]
          refine wpAnyH_take (i := 1) (oi := ⟨some 82, .load 32 (.tmp 12), 32, "law.go:138", #[], none⟩) (v := ?_) rfl (by kernel_rfl) (by kernel_rfl) (by kernel_rfl) (fun _ _ _ h => h) (Or.inl ⟨by kernel_rfl, ?_⟩) (by assumption) ?_
          rotate_left
          · (intro w hSw; (try dsimp only at hSw); obtain ⟨d0, d1, d2, d3, d4, d5, d6, d7, d8, d9, d10, d11, d12, d13⟩ := hSw; go_simp; try with_reducible rfl)
          try simp only [Act.put, setIfInBounds_toArray, set_cons_zero, set_cons_succ]
          refine wpAnyH_take (i := 2) (oi := ⟨some 83, .load 32 (.tmp 5), 32, "law.go:138", #[], none⟩) (v := ?_) rfl (by kernel_rfl) (by kernel_rfl) (by kernel_rfl) (fun _ _ _ h => h) (Or.inl ⟨by kernel_rfl, ?_⟩) (by assumption) ?_
          rotate_left
          · (intro w hSw; (try dsimp only at hSw); obtain ⟨d0, d1, d2, d3, d4, d5, d6, d7, d8, d9, d10, d11, d12, d13⟩ := hSw; go_simp; try with_reducible rfl)
          try simp only [Act.put, setIfInBounds_toArray, set_cons_zero, set_cons_succ]
          refine wpAnyH_take (i := 4) (oi := ⟨some 85, .load 28 (.tmp 4), 28, "law.go:138", #[], none⟩) (v := ?_) rfl (by kernel_rfl) (by kernel_rfl) (by kernel_rfl) (fun _ _ _ h => h) (Or.inl ⟨by kernel_rfl, ?_⟩) (by assumption) ?_
          rotate_left
          · (intro w hSw; (try dsimp only at hSw); obtain ⟨d0, d1, d2, d3, d4, d5, d6, d7, d8, d9, d10, d11, d12, d13⟩ := hSw; go_simp; try with_reducible rfl)
          try simp only [Act.put, setIfInBounds_toArray, set_cons_zero, set_cons_succ]
          refine wpAnyH_take (i := 5) (oi := ⟨some 86, .load 32 (.tmp 13), 32, "law.go:138", #[], none⟩) (v := ?_) rfl (by kernel_rfl) (by kernel_rfl) (by kernel_rfl) (fun _ _ _ h => h) (Or.inl ⟨by kernel_rfl, ?_⟩) (by assumption) ?_
          rotate_left
          · (intro w hSw; (try dsimp only at hSw); obtain ⟨d0, d1, d2, d3, d4, d5, d6, d7, d8, d9, d10, d11, d12, d13⟩ := hSw; go_simp; try with_reducible rfl)
          try simp only [Act.put, setIfInBounds_toArray, set_cons_zero, set_cons_succ]
          refine wpAnyH_take (i := 6) (oi := ⟨some 87, .load 32 (.tmp 5), 32, "law.go:138", #[], none⟩) (v := ?_) rfl (by kernel_rfl) (by kernel_rfl) (by kernel_rfl) (fun _ _ _ h => h) (Or.inl ⟨by kernel_rfl, ?_⟩) (by assumption) ?_
          rotate_left
          · (intro w hSw; (try dsimp only at hSw); obtain ⟨d0, d1, d2, d3, d4, d5, d6, d7, d8, d9, d10, d11, d12, d13⟩ := hSw; go_simp; try with_reducible rfl)
          try simp only [Act.put, setIfInBounds_toArray, set_cons_zero, set_cons_succ]
          refine wpAnyH_ready (rs := [3]) (by kernel_rfl) (by simp) ?_
          refine AllReadyH.cons (o := ⟨some 84, .call { callee := Callee.value (.func 18), args := #[.tmp 81, .tmp 82, .tmp 83], argTypes := #[28, 32, 32] }, 4, "law.go:138", #[⟨0, .data⟩, ⟨1, .data⟩, ⟨2, .data⟩], none⟩) rfl (fun K hK => ?_) AllReadyH.nil
          go_simp
          go_at_call 18; refine (BL.out _ (HVW.out.tr (by repeat (first | exact Bel.rf | with_reducible refine Bel.drwN ?_ _ | with_reducible refine Bel.drw ?_ | with_reducible refine Bel.al ?_ _)))).mono ?_; rintro e y7 ⟨rfl, hb⟩; have HBy7 : Hid (Bel ((v5.alloc (.cells #[.slice s1 n e1, .slice b1 n f1] 32)).alloc (.cells #[.slice s2 n e2, .slice b2 n f2] 32)) y7) := Bel.tr (by repeat (first | exact Bel.rf | with_reducible refine Bel.drwN ?_ _ | with_reducible refine Bel.drw ?_ | with_reducible refine Bel.al ?_ _)) hb; clear hb
          try go_wp2_with fail
          refine hK.out _ _ ?_ (fun hH1 => ?_)
          · (try dsimp only); exact KV.out _ (by repeat (first | exact HBy9.out | exact HBy8.out | exact HBy7.out | exact Bel.rf | with_reducible refine Bel.drwN ?_ _ | with_reducible refine Bel.drw ?_ | with_reducible refine Bel.al ?_ _))
          clear hK K hH0
          try simp only [Act.put, setIfInBounds_toArray, set_cons_zero, set_cons_succ]
          refine wpAnyH_ready (rs := [7]) (by kernel_rfl) (by simp) ?_
          refine AllReadyH.cons (o := ⟨some 88, .call { callee := Callee.value (.func 18), args := #[.tmp 85, .tmp 86, .tmp 87], argTypes := #[28, 32, 32] }, 4, "law.go:138", #[⟨4, .data⟩, ⟨5, .data⟩, ⟨6, .data⟩, ⟨3, .chain⟩], none⟩) rfl (fun K hK => ?_) AllReadyH.nil
          go_simp
          go_at_call 18; refine (BR.out _ (HVW.out.tr (by repeat (first | exact HBy7.out | with_reducible refine Bel.drwN ?_ _ | with_reducible refine Bel.drw ?_ | with_reducible refine Bel.al ?_ _)))).mono ?_; rintro e y8 ⟨rfl, hb⟩; have HBy8 : Hid (Bel ((v5.alloc (.cells #[.slice s1 n e1, .slice b1 n f1] 32)).alloc (.cells #[.slice s2 n e2, .slice b2 n f2] 32)) y8) := Bel.tr (by repeat (first | exact HBy7.out | with_reducible refine Bel.drwN ?_ _ | with_reducible refine Bel.drw ?_ | with_reducible refine Bel.al ?_ _)) hb; clear hb
          try go_wp2_with fail
          refine hK.out _ _ ?_ (fun hH2 => ?_)
          · (try dsimp only); exact KV.out _ (by repeat (first | exact HBy9.out | exact HBy8.out | exact HBy7.out | exact Bel.rf | with_reducible refine Bel.drwN ?_ _ | with_reducible refine Bel.drw ?_ | with_reducible refine Bel.al ?_ _))
          clear hK K hH1
          try simp only [Act.put, setIfInBounds_toArray, set_cons_zero, set_cons_succ]
          refine wpAnyH_take (i := 8) (oi := ⟨some 15, .assign (.tmp 84), 4, "law.go:138", #[⟨3, .data⟩, ⟨7, .chain⟩, ⟨0, .phase⟩, ⟨1, .phase⟩, ⟨2, .phase⟩, ⟨3, .phase⟩, ⟨4, .textOnly Departure.lateStores⟩, ⟨5, .textOnly Departure.lateStores⟩, ⟨6, .textOnly Departure.lateStores⟩, ⟨7, .textOnly Departure.lateStoresUnsure⟩], none⟩) (v := ?_) rfl (by kernel_rfl) (by kernel_rfl) (by kernel_rfl) (fun _ _ _ h => h) (Or.inl ⟨by kernel_rfl, ?_⟩) (by assumption) ?_
          rotate_left
          · (intro w hSw; (try dsimp only at hSw); obtain ⟨d0, d1, d2, d3, d4, d5, d6, d7, d8, d9, d10, d11, d12, d13⟩ := hSw; go_simp; try with_reducible rfl)
          try simp only [Act.put, setIfInBounds_toArray, set_cons_zero, set_cons_succ]
          refine wpAnyH_take (i := 9) (oi := ⟨some 16, .assign (.tmp 88), 4, "law.go:138", #[⟨7, .data⟩, ⟨8, .chain⟩, ⟨0, .phase⟩, ⟨1, .phase⟩, ⟨2, .phase⟩, ⟨3, .phase⟩, ⟨4, .phase⟩, ⟨5, .phase⟩, ⟨6, .phase⟩, ⟨7, .phase⟩, ⟨8, .phase⟩], none⟩) (v := ?_) rfl (by kernel_rfl) (by kernel_rfl) (by kernel_rfl) (fun _ _ _ h => h) (Or.inl ⟨by kernel_rfl, ?_⟩) (by assumption) ?_
          rotate_left
          · (intro w hSw; (try dsimp only at hSw); obtain ⟨d0, d1, d2, d3, d4, d5, d6, d7, d8, d9, d10, d11, d12, d13⟩ := hSw; go_simp; try with_reducible rfl)
          try simp only [Act.put, setIfInBounds_toArray, set_cons_zero, set_cons_succ]
          refine wpAnyH_done (by kernel_rfl) ?_ _
          refine NoPanic.normal ?_
          clear d1 x1
          obtain ⟨d0, d1, d2, d3, d4, d5, d6, d7, d8, d9, d10, d11, d12, d13⟩ := KV.out y8 HBy8.out
          obtain ⟨m1, m2⟩ := HMB.out
          rcases eL with _ | _ <;> rcases eR with _ | _
          · obtain rfl : eO = false := m1
            go_wp2_with fail
            go_at_call 18
            refine (BO.out _ (HVW.out.tr (by repeat (first | exact HBy8.out | with_reducible refine Bel.drwN ?_ _ | with_reducible refine Bel.drw ?_ | with_reducible refine Bel.al ?_ _)))).mono ?_
            rintro e y9 ⟨rfl, hb⟩
            have HBy9 : Hid (Bel ((v5.alloc (.cells #[.slice s1 n e1, .slice b1 n f1] 32)).alloc (.cells #[.slice s2 n e2, .slice b2 n f2] 32)) y9) := Bel.tr (by repeat (first | exact HBy8.out | with_reducible refine Bel.drwN ?_ _ | with_reducible refine Bel.drw ?_ | with_reducible refine Bel.al ?_ _)) hb; clear hb
            clear d0 d1 d2 d3 d4 d5 d6 d7 d8 d9 d10 d11 d12 d13
            have HOE : Hid (Ok y9 g ∧ Ch g (x6.alloc (.cells #[.slice rA n rc, .slice tA n tc, .slice sA n sc, .slice bA n bc, .slice sU n uc, .slice bU n vc] 32)) y9) := ⟨HO9.out.bel (HB5.out.tr (HVW.out.tr HBy9.out)), HC9.out.tr (Ch.of_bel (HB5.out.tr (HVW.out.tr HBy9.out)))⟩
            go_wp2
            go_roundw
            case rel => exact ⟨i + 1, _, rfl, by omega, by go_num, HOE.out.1.bel (by repeat (first | exact Bel.rf | with_reducible refine Bel.drwN ?_ _ | with_reducible refine Bel.drw ?_ | with_reducible refine Bel.al ?_ _)), (by repeat (first | exact HOE.out.2 | with_reducible refine Ch.drwN ?_ _ | with_reducible refine Ch.drw ?_ | with_reducible refine Ch.al ?_ _))⟩
            case measure => simp [intOf]; omega
          · obtain rfl : eO = true := m1
            go_wp2_with fail
            go_at_call 18
            refine (BO.out _ (HVW.out.tr (by repeat (first | exact HBy8.out | with_reducible refine Bel.drwN ?_ _ | with_reducible refine Bel.drw ?_ | with_reducible refine Bel.al ?_ _)))).mono ?_
            rintro e y9 ⟨rfl, hb⟩
            have HBy9 : Hid (Bel ((v5.alloc (.cells #[.slice s1 n e1, .slice b1 n f1] 32)).alloc (.cells #[.slice s2 n e2, .slice b2 n f2] 32)) y9) := Bel.tr (by repeat (first | exact HBy8.out | with_reducible refine Bel.drwN ?_ _ | with_reducible refine Bel.drw ?_ | with_reducible refine Bel.al ?_ _)) hb; clear hb
            clear d0 d1 d2 d3 d4 d5 d6 d7 d8 d9 d10 d11 d12 d13
            have HOE : Hid (Ok y9 g ∧ Ch g (x6.alloc (.cells #[.slice rA n rc, .slice tA n tc, .slice sA n sc, .slice bA n bc, .slice sU n uc, .slice bU n vc] 32)) y9) := ⟨HO9.out.bel (HB5.out.tr (HVW.out.tr HBy9.out)), HC9.out.tr (Ch.of_bel (HB5.out.tr (HVW.out.tr HBy9.out)))⟩
            go_wp2
            go_roundw
            case rel => exact ⟨i + 1, _, rfl, by omega, by go_num, HOE.out.1.bel (by repeat (first | exact Bel.rf | with_reducible refine Bel.drwN ?_ _ | with_reducible refine Bel.drw ?_ | with_reducible refine Bel.al ?_ _)), (by repeat (first | exact HOE.out.2 | with_reducible refine Ch.drwN ?_ _ | with_reducible refine Ch.drw ?_ | with_reducible refine Ch.al ?_ _))⟩
            case measure => simp [intOf]; omega
          · obtain rfl : eO = true := m1
            go_wp2_with fail
            go_at_call 18
            refine (BO.out _ (HVW.out.tr (by repeat (first | exact HBy8.out | with_reducible refine Bel.drwN ?_ _ | with_reducible refine Bel.drw ?_ | with_reducible refine Bel.al ?_ _)))).mono ?_
            rintro e y9 ⟨rfl, hb⟩
            have HBy9 : Hid (Bel ((v5.alloc (.cells #[.slice s1 n e1, .slice b1 n f1] 32)).alloc (.cells #[.slice s2 n e2, .slice b2 n f2] 32)) y9) := Bel.tr (by repeat (first | exact HBy8.out | with_reducible refine Bel.drwN ?_ _ | with_reducible refine Bel.drw ?_ | with_reducible refine Bel.al ?_ _)) hb; clear hb
            clear d0 d1 d2 d3 d4 d5 d6 d7 d8 d9 d10 d11 d12 d13
            have HOE : Hid (Ok y9 g ∧ Ch g (x6.alloc (.cells #[.slice rA n rc, .slice tA n tc, .slice sA n sc, .slice bA n bc, .slice sU n uc, .slice bU n vc] 32)) y9) := ⟨HO9.out.bel (HB5.out.tr (HVW.out.tr HBy9.out)), HC9.out.tr (Ch.of_bel (HB5.out.tr (HVW.out.tr HBy9.out)))⟩
            go_wp2
            go_roundw
            case rel => exact ⟨i + 1, _, rfl, by omega, by go_num, HOE.out.1.bel (by repeat (first | exact Bel.rf | with_reducible refine Bel.drwN ?_ _ | with_reducible refine Bel.drw ?_ | with_reducible refine Bel.al ?_ _)), (by repeat (first | exact HOE.out.2 | with_reducible refine Ch.drwN ?_ _ | with_reducible refine Ch.drw ?_ | with_reducible refine Ch.al ?_ _))⟩
            case measure => simp [intOf]; omega
          · cases m2
      · obtain rfl : i = 3 := by omega
        have HWE : Hid (Bel w wr) := (HQ.out wr HCR.out).2.2.2.2
        go_wp2_with (go_at_call 19; refine (AW.out _).mono ?_; rintro e v9 ⟨rfl, h9⟩; have HB9 : Hid (Bel wr v9) := Bel.tr (by repeat (first | exact Bel.rf | with_reducible refine Bel.drwN ?_ _ | with_reducible refine Bel.drw ?_ | with_reducible refine Bel.al ?_ _)) h9; clear h9)
        go_ret
        exact ⟨rfl, (HWE.out.tr HB9.out).bl⟩

set_option maxRecDepth 100000 in
theorem lifted (os : Os) (started : os.Started) (H : Type) (enc : TypeId × Value → H) :
    ReturnsInHanded {} Try.checked os 4 .any (Rows.wordSplitsSpec.pre6 enc Try.prog Try.f4 Rows.wordSplitsRow.domain false) (Rows.wordSplitsSpec.post enc Try.prog Try.f4 false true false false) := by
  refine returnsInHanded_of_change (C := Try.checked) own started (by kernel_rfl) Try.func4
    (ChangeSpec.witness6 (enc := enc) (C := Try.checked) false ⟨#[], #[.slice none 0 0], []⟩ 8 (by kernel_rfl) (by kernel_rfl) (by kernel_rfl) (by kernel_rfl)) ?_
  intro W base args ds gs before hval0 hW hcnd _
  have hval : ∀ (j : Nat) t v, Try.f4.params[j]? = some t → args[j]? = some v → Value.okWide Try.prog W .any base t v := hval0
  have hW' := hW
  obtain ⟨p, q, hA0, hV, rfl, hfz, hnd⟩ := hW
  have hA : DataW.TrodAll enc Try.prog W 0 (fun _ => true) true Try.f4.params.toList args.toList ds p := hA0
  rw [Try.params4] at hA hval
  obtain ⟨v0, vs0, d0, ds0, p0, q0, hargs, rfl, rfl, h0, r0⟩ := trodAll_cons hA
  obtain ⟨rfl, rfl, rfl⟩ := trodAll_nil r0
  obtain rfl : args = #[v0] := by cases args; simp_all
  obtain ⟨rfl, rfl⟩ := trodVars_none hV
  obtain ⟨a0, len0, cap0, rfl⟩ := okWide_slice Try.underlying22 (hval 0 22 v0 rfl rfl)
  have k0 := h0
  have lt0 : ∀ x ∈ p0, x.block < W.heap.size := by obtain ⟨m, hm⟩ := k0; exact DataW.trod_lt m _ _ _ hm
  obtain ⟨z0, w0⟩ : ∃ zs, IsRow .i64 W a0 len0 cap0 zs := by
    obtain ⟨fuel, hf⟩ := h0
    rcases open_ints Try.underlying22 Try.underlying3 (by kernel_rfl) hf with ⟨hcs, _⟩ | ⟨x, l, c, zs, hcs, _, hl, hm, hz, _, hcell, hwz⟩
    · simp [Value.cells] at hcs
      obtain ⟨rfl, rfl, rfl⟩ := hcs
      exact ⟨[], .inl ⟨rfl, rfl, rfl, rfl⟩⟩
    · simp [Value.cells] at hcs
      obtain ⟨rfl, rfl, rfl⟩ := hcs
      exact ⟨zs, .inr ⟨_, rfl, hl, hm, by simpa using hz, hcell, hwz⟩⟩
  clear hA0 hval0
  refine (walk a0 len0 cap0 z0 W w0).mono fun e W' ⟨he, bel⟩ => ?_
  subst he
  exact ⟨_, rfl, _, _, _, [], _, [], hW', trodAll_mk1 (shut_bool Try.underlying4 _), (trodAll_cons_mk (Below.trod laidOut (by kernel_rfl) (of_decide_eq_true (by kernel_rfl)) k0 bel lt0) trodAll_mk0), rfl, bel.frame _, fun h => by cases h⟩

theorem over : Rows.wordSplitsRow.holds Try.pinned (OpenSpec.ofChange Rows.wordSplitsSpec) :=
  OpenClaim.holds_of_wide 4 Try.f4 rfl rfl rfl rfl rfl rfl rfl ⟨rfl, rfl, rfl, rfl, rfl⟩ rfl rfl rfl rfl rfl (by kernel_rfl) Try.func4 (by kernel_rfl)
    (of_decide_eq_true (by kernel_rfl)) (by unfold Func.isWrapper; first | (rw [if_pos (by decide +kernel)]; kernel_rfl) | (rw [if_neg (by decide +kernel)]; exact ⟨rfl, rfl⟩))
    (fun os started H enc _ => lifted os started H enc)

theorem proved : Rows.WordSplitsSaid := over
end Go.Proofs.Ytgdhgeongdenpaa.wordSplits
