/- That the law SketchNarrow returns true for every input that can be read, and leaves its arguments as they were; no further condition. -/
import Derived.Test.YtgdhgeongdenpaaRows
import Derived.WalkKit
import Derived.ProofKit
import Derived.OpenShut
import Derived.Test.YtgdhgeongdenpaaWords
import Derived.Test.YtgdhgeongdenpaaSrcNew0
import Derived.Test.YtgdhgeongdenpaaSnA
import Derived.ShutString
import Derived.ChangeOld
import Derived.Below
namespace Go.Proofs.Ytgdhgeongdenpaa.sketchNarrow
open Go.ChangeShapes Go.WideShapes Go.ChangeAt Go.RowKit Wo
open Go.ChangeMaps (open_string shut_string)
set_option linter.unusedVariables false

theorem own : ownKnob Try.prog.godebug = none := by kernel_rfl
theorem laidOut : laidOutB Try.prog = true := by kernel_rfl

/-- WHAT THE WALK IS TOLD OF A SLICE OF INTEGERS THAT CAME IN: it is nil; or it leads to a row of 'cap' cells, the numbers 'zs' (the first 'len' are its elements, the rest its spare room), each fitting its kind. -/
def IsRow (k : IntKind) (w : World) (a : Option Addr) (len cap : Nat) (zs : List Int) : Prop :=
  (a = none ∧ len = 0 ∧ cap = 0 ∧ zs = []) ∨
  ∃ x, a = some x ∧ len ≤ cap ∧ cap ≤ maxLen ∧ zs.length = cap ∧ (∀ i, i < zs.length → w.cell? (x.add i) = some (.int k (zs.getD i 0))) ∧ ∀ n ∈ zs, (Lit.int k n).wf = true

open Go.Proofs.Ytgdhgeongdenpaa.Wd (Rp rs rs_at Sx Sv) in
open List (setIfInBounds_toArray set_cons_zero set_cons_succ getElem?_toArray getElem?_cons_zero getElem?_cons_succ) in
open Go.Proofs.Ytgdhgeongdenpaa.Sk Go.Proofs.Ytgdhgeongdenpaa.Nr Go.Proofs.Ytgdhgeongdenpaa.Pc Go.Proofs.Ytgdhgeongdenpaa.Wi Go.Proofs.Ytgdhgeongdenpaa.Wo Go.Proofs.Ytgdhgeongdenpaa.Sr Go.Proofs.Ytgdhgeongdenpaa.Ra in
set_option maxHeartbeats 16000000 in
set_option maxRecDepth 100000 in
set_option linter.unusedSimpArgs false in
theorem walk (a0 : Option Addr) (len0 cap0 : Nat) (z0 : List Int) (w : World) (w0 : IsRow .i64 w a0 len0 cap0 z0) :
    Calls Try.prog 8 #[.slice a0 len0 cap0] w fun e w' => e = .returned (.bool true) ∧ Below w.heap.size w w' := by
  have AW : Hid (∀ W, Calls Try.prog 32 #[] W fun e w' => e = .returned (.bool true) ∧ Bel W w') := awake_any
  go_enter Try.func8, Try.ntmps8
  go_wp2_with fail
  go_at_call 10
  refine (new_any a0 len0 cap0 z0 w w0).mono ?_
  rintro e v1 ⟨g, rfl, hg, ho1, hb1⟩
  have HO1 := Lib.hid ho1
  have HB1 := Lib.hid hb1
  clear ho1 hb1 w0
  go_wp2_with fail
  go_at_call 26
  refine (normal_any g _ (HO1.out.bel (by repeat (first | exact Bel.rf | with_reducible refine Bel.drwN ?_ _ | with_reducible refine Bel.drw ?_ | with_reducible refine Bel.al ?_ _)))).mono ?_
  rintro e v2 ⟨m, n, A, nc, cc, C, rfl, hs, hz, hf, ho2, hc2⟩
  have HS := Lib.hid hs
  have HO2 := Lib.hid ho2
  have HB2 : Hid (Bel w v2) := Bel.ch HB1.out ((Ch.of_bel (by repeat (first | exact Bel.rf | with_reducible refine Bel.drwN ?_ _ | with_reducible refine Bel.drw ?_ | with_reducible refine Bel.al ?_ _))).tr hc2) hg
  have n1 := hs.n1
  have n8 := hs.n8
  have HN1 := Lib.hid n1
  have HN8 := Lib.hid n8
  have ni : (n : Int) ≤ 8 := by omega
  have ni1 : 1 ≤ (n : Int) := by omega
  have HG := Lib.hid hg
  have HX2 : Hid (Bk (v2.alloc (.cells #[.int .i64 3, .int .i64 0, .int .i64 0, .int .i64 (m : Int), .int .i64 (n : Int), .slice A nc cc] 28)) v2.heap.size 28 #[.int .i64 3, .int .i64 0, .int .i64 0, .int .i64 (m : Int), .int .i64 (n : Int), .slice A nc cc]) := Bk.nw _ _ _
  have LI : Hid (∀ W, Ok W g → Calls Try.prog 12 #[.pointer (some ⟨g, 0, none⟩), .int .i64 (m : Int)] W (SomeList g m W)) := fun W h => list_any g m (by have := HS.out.m32; omega) W h
  have OF : Hid (∀ hx c X W, Sam X → X.length = m → m ≤ c → Zi W (some ⟨hx, 0, none⟩) m X → Calls Try.prog 27 #[.slice (some ⟨hx, 0, none⟩) m c, .int .i64 (n : Int)] W fun e w' => ∃ h c', e = .returned (.tuple #[.agg #[.int .i64 (m : Int), .slice (some ⟨h, 0, none⟩) n c', .int .i64 ((m : Int) * vr X)], .int .i64 0]) ∧ n ≤ c' ∧ W.heap.size ≤ h ∧ Zi w' (some ⟨h, 0, none⟩) n (pls (cen X) m n) ∧ Bel W w') := fun hx c X W h1 _ h2 h4 => Of_ok hx c m n X HS.out.m2 HS.out.m32 HS.out.n1 HS.out.n8 HS.out.nm h2 h1 W h4
  have KS : Hid (∀ W, Bk W v2.heap.size 28 #[.int .i64 3, .int .i64 0, .int .i64 0, .int .i64 (m : Int), .int .i64 (n : Int), .slice A nc cc] → (fun W => W.cell? ⟨v2.heap.size, 3, none⟩ = some (.int .i64 (m : Int)) ∧ W.cell? ⟨v2.heap.size, 4, none⟩ = some (.int .i64 (n : Int))) W) := fun W h => by
    have u3 := h.cell 3
    have u4 := h.cell 4
    simp only [getElem?_toArray, getElem?_cons_zero, getElem?_cons_succ] at u3 u4
    exact ⟨u3, u4⟩
  have HQ2 : Hid (g < v2.heap.size) := HO2.out.lt
  have nq2 : v2.heap.size ≠ g := by have := HQ2.out; omega
  have HM2 : Hid (0 < m) := (by have := HS.out.m2; omega : _ < _)
  clear hs hz hf ho2 hc2 hg
  unfold Go.Proofs.Ytgdhgeongdenpaa.Wd.Sx
  go_upto_region 3 with fail
  go_cut [5, 6] (fun s5 s6 wx => ∃ (u a c : Nat) (X : List Int) (V : World), V = wx ∧ s5 = .pointer (some ⟨u, 0, none⟩) ∧ s6 = .int .i64 0 ∧ v2.heap.size < u ∧ Bk wx u 64 #[.int .i64 (m : Int), .slice (some ⟨a, 0, none⟩) n c, .int .i64 ((m : Int) * vr X)] ∧ Skz wx a n m X ∧ v2.heap.size < a ∧ Sam X ∧ X.length = m ∧ Ok wx g ∧ Ch g v2 wx ∧ Bk wx v2.heap.size 28 #[.int .i64 3, .int .i64 0, .int .i64 0, .int .i64 (m : Int), .int .i64 (n : Int), .slice A nc cc])
  case first =>
    refine wp_region_noPanic ?_
    refine wp_region_held_drew (S := (fun W => W.cell? ⟨v2.heap.size, 3, none⟩ = some (.int .i64 (m : Int)) ∧ W.cell? ⟨v2.heap.size, 4, none⟩ = some (.int .i64 (n : Int)))) (by kernel_rfl) ?_ (fun hH0 => ?_)
    · (try dsimp only); exact KS.out _ (by repeat (first | exact HX2.out | with_reducible refine Bk.drwN ?_ _ | with_reducible refine Bk.drw ?_ | with_reducible refine Bk.al ?_ _))
    refine wpAnyH_take (i := 0) (oi := ⟨some 22, .move (.tmp 3), 23, "law.go:121", #[], none⟩) (v := ?_) rfl (by kernel_rfl) (by kernel_rfl) (by kernel_rfl) (fun _ _ _ h => h) (Or.inl ⟨by kernel_rfl, ?_⟩) (by assumption) ?_
    rotate_left
    · (intro w hSw; (try dsimp only at hSw); obtain ⟨d0, d1⟩ := hSw; go_simp; try with_reducible rfl)
    try simp only [Act.put, setIfInBounds_toArray, set_cons_zero, set_cons_succ]
    refine wpAnyH_take (i := 1) (oi := ⟨some 23, .fieldAddr 28 (.tmp 4) 1, 0, "law.go:121", #[], none⟩) (v := ?_) rfl (by kernel_rfl) (by kernel_rfl) (by kernel_rfl) (fun _ _ _ h => h) (Or.inl ⟨by kernel_rfl, ?_⟩) (by assumption) ?_
    rotate_left
    · (intro w hSw; (try dsimp only at hSw); obtain ⟨d0, d1⟩ := hSw; go_simp; try with_reducible rfl)
    try simp only [Act.put, setIfInBounds_toArray, set_cons_zero, set_cons_succ]
    refine wpAnyH_take (i := 2) (oi := ⟨some 24, .load 3 (.tmp 23), 3, "law.go:121", #[⟨1, .data⟩], none⟩) (v := ?_) rfl (by kernel_rfl) (by kernel_rfl) (by kernel_rfl) (fun _ _ _ h => h) (Or.inl ⟨by kernel_rfl, ?_⟩) (by assumption) ?_
    rotate_left
    · (intro w hSw; (try dsimp only at hSw); obtain ⟨d0, d1⟩ := hSw; go_simp; try with_reducible rfl)
    try simp only [Act.put, setIfInBounds_toArray, set_cons_zero, set_cons_succ]
    refine wpAnyH_take (i := 4) (oi := ⟨some 26, .fieldAddr 28 (.tmp 4) 2, 0, "law.go:121", #[], none⟩) (v := ?_) rfl (by kernel_rfl) (by kernel_rfl) (by kernel_rfl) (fun _ _ _ h => h) (Or.inl ⟨by kernel_rfl, ?_⟩) (by assumption) ?_
    rotate_left
    · (intro w hSw; (try dsimp only at hSw); obtain ⟨d0, d1⟩ := hSw; go_simp; try with_reducible rfl)
    try simp only [Act.put, setIfInBounds_toArray, set_cons_zero, set_cons_succ]
    refine wpAnyH_take (i := 5) (oi := ⟨some 27, .load 3 (.tmp 26), 3, "law.go:121", #[⟨4, .data⟩], none⟩) (v := ?_) rfl (by kernel_rfl) (by kernel_rfl) (by kernel_rfl) (fun _ _ _ h => h) (Or.inl ⟨by kernel_rfl, ?_⟩) (by assumption) ?_
    rotate_left
    · (intro w hSw; (try dsimp only at hSw); obtain ⟨d0, d1⟩ := hSw; go_simp; try with_reducible rfl)
    try simp only [Act.put, setIfInBounds_toArray, set_cons_zero, set_cons_succ]
    refine wpAnyH_ready (rs := [3, 10]) (by kernel_rfl) (by simp) ?_
    refine AllReadyH.cons (o := ⟨some 25, .call { callee := Callee.value (.func 12), args := #[.tmp 22, .tmp 24], argTypes := #[23, 3] }, 22, "law.go:121", #[⟨0, .data⟩, ⟨2, .data⟩], none⟩) rfl (fun K hK => ?_) (AllReadyH.cons (o := ⟨some 5, .alloc 64, 0, "law.go:121", #[], none⟩) rfl (fun K hK => ?_) (AllReadyH.nil))
    · go_simp
      go_at_call 12; refine (LI.out _ (HO2.out.bel (by repeat (first | exact Bel.rf | with_reducible refine Bel.drwN ?_ _ | with_reducible refine Bel.drw ?_ | with_reducible refine Bel.al ?_ _)))).mono ?_; rintro e x4 ⟨vx, X, rfl, hox, hlx, hsx, ho4, hc4⟩; obtain ⟨hx, cx, rfl, mcx, hbx⟩ := row_form hox HM2.out; have HC4 : Hid (Ch g v2 x4) := (Ch.of_bel (by repeat (first | exact Bel.rf | with_reducible refine Bel.drwN ?_ _ | with_reducible refine Bel.drw ?_ | with_reducible refine Bel.al ?_ _))).tr hc4; have HX4 : Hid (Bk x4 v2.heap.size 28 #[.int .i64 3, .int .i64 0, .int .i64 0, .int .i64 (m : Int), .int .i64 (n : Int), .slice A nc cc]) := hc4.bk (by repeat (first | exact HX2.out | with_reducible refine Bk.drwN ?_ _ | with_reducible refine Bk.drw ?_ | with_reducible refine Bk.al ?_ _)) nq2; have HOX : Hid (Zi x4 (some ⟨hx, 0, none⟩) m X) := own_zi hox hlx; have HSX : Hid (Sam X ∧ X.length = m) := ⟨hsx, hlx⟩; have HO4 := Lib.hid ho4; have HMC := Lib.hid mcx; clear hox hlx hsx ho4 hc4 mcx hbx
      try go_wp2_with fail
      refine hK.out _ _ ?_ (fun hH1 => ?_)
      · (try dsimp only); have := HX4.out.lt; exact KS.out _ (by repeat (first | exact HX4.out | with_reducible refine Bk.drwN ?_ _ | with_reducible refine Bk.drw ?_ | with_reducible refine Bk.al ?_ _))
      clear hK K hH0
      try simp only [Act.put, setIfInBounds_toArray, set_cons_zero, set_cons_succ]
      refine wpAnyH_ready (rs := [6, 10]) (by kernel_rfl) (by simp) ?_
      refine AllReadyH.cons (o := ⟨some 28, .call { callee := Callee.value (.func 27), args := #[.tmp 25, .tmp 27], argTypes := #[22, 3] }, 65, "law.go:121", #[⟨3, .data⟩, ⟨5, .data⟩, ⟨3, .chain⟩], none⟩) rfl (fun K hK => ?_) (AllReadyH.cons (o := ⟨some 5, .alloc 64, 0, "law.go:121", #[], none⟩) rfl (fun K hK => ?_) (AllReadyH.nil))
      · go_simp
        go_at_call 27; refine (OF.out hx cx X _ HSX.out.1 HSX.out.2 HMC.out (HOX.out.bel (by repeat (first | exact Bel.rf | with_reducible refine Bel.drwN ?_ _ | with_reducible refine Bel.drw ?_ | with_reducible refine Bel.al ?_ _)))).mono ?_; rintro e x5 ⟨h5, c5, rfl, nc5, hh5, hz5, hb5⟩; have HB5 : Hid (Bel x4 x5) := Bel.tr (by repeat (first | exact Bel.rf | with_reducible refine Bel.drwN ?_ _ | with_reducible refine Bel.drw ?_ | with_reducible refine Bel.al ?_ _)) hb5; have HX5 : Hid (Bk x5 v2.heap.size 28 #[.int .i64 3, .int .i64 0, .int .i64 0, .int .i64 (m : Int), .int .i64 (n : Int), .slice A nc cc]) := HX4.out.bel HB5.out; have HZ5 := Lib.hid hz5; have HH5 : Hid (x4.heap.size ≤ h5) := Nat.le_trans (by (try simp)) hh5; clear hb5 hz5 hh5
        try go_wp2_with fail
        refine hK.out _ _ ?_ (fun hH2 => ?_)
        · (try dsimp only); have := HX4.out.lt; exact KS.out _ (by repeat (first | exact HX5.out | with_reducible refine Bk.drwN ?_ _ | with_reducible refine Bk.drw ?_ | with_reducible refine Bk.al ?_ _))
        clear hK K hH1
        try simp only [Act.put, setIfInBounds_toArray, set_cons_zero, set_cons_succ]
        refine wpAnyH_take (i := 7) (oi := ⟨some 21, .move (.tmp 28), 65, "law.go:121", #[⟨6, .data⟩], none⟩) (v := ?_) rfl (by kernel_rfl) (by kernel_rfl) (by kernel_rfl) (fun _ _ _ h => h) (Or.inl ⟨by kernel_rfl, ?_⟩) (by assumption) ?_
        rotate_left
        · (intro w hSw; (try dsimp only at hSw); obtain ⟨d0, d1⟩ := hSw; go_simp; try with_reducible rfl)
        try simp only [Act.put, setIfInBounds_toArray, set_cons_zero, set_cons_succ]
        refine wpAnyH_take (i := 8) (oi := ⟨some 29, .extract (.tmp 21) 0, 64, "law.go:121", #[⟨7, .data⟩], none⟩) (v := ?_) rfl (by kernel_rfl) (by kernel_rfl) (by kernel_rfl) (fun _ _ _ h => h) (Or.inl ⟨by kernel_rfl, ?_⟩) (by assumption) ?_
        rotate_left
        · (intro w hSw; (try dsimp only at hSw); obtain ⟨d0, d1⟩ := hSw; go_simp; try with_reducible rfl)
        try simp only [Act.put, setIfInBounds_toArray, set_cons_zero, set_cons_succ]
        refine wpAnyH_take (i := 9) (oi := ⟨some 30, .extract (.tmp 21) 1, 33, "law.go:121", #[⟨7, .data⟩, ⟨11, .gcOnly Departure.lateStores⟩], none⟩) (v := ?_) rfl (by kernel_rfl) (by kernel_rfl) (by kernel_rfl) (fun _ _ _ h => h) (Or.inl ⟨by kernel_rfl, ?_⟩) (by assumption) ?_
        rotate_left
        · (intro w hSw; (try dsimp only at hSw); obtain ⟨d0, d1⟩ := hSw; go_simp; try with_reducible rfl)
        try simp only [Act.put, setIfInBounds_toArray, set_cons_zero, set_cons_succ]
        refine wpAnyH_ready (rs := [10]) (by kernel_rfl) (by simp) ?_
        refine AllReadyH.cons (o := ⟨some 5, .alloc 64, 0, "law.go:121", #[], none⟩) rfl (fun K hK => ?_) (AllReadyH.nil)
        · go_simp
          try go_wp2_with fail
          refine hK.out _ _ ?_ (fun hH3 => ?_)
          · (try dsimp only); have := HX4.out.lt; exact KS.out _ (by repeat (first | exact HX5.out | with_reducible refine Bk.drwN ?_ _ | with_reducible refine Bk.drw ?_ | with_reducible refine Bk.al ?_ _))
          clear hK K hH2
          try simp only [Act.put, setIfInBounds_toArray, set_cons_zero, set_cons_succ]
          refine wpAnyH_ready (rs := [11]) (by kernel_rfl) (by simp) ?_
          refine AllReadyH.cons (o := ⟨none, .store 64 (.tmp 5) (.tmp 29), 0, "law.go:121", #[⟨10, .data⟩, ⟨8, .data⟩, ⟨6, .chain⟩, ⟨0, .phase⟩, ⟨1, .phase⟩, ⟨2, .phase⟩, ⟨3, .phase⟩, ⟨4, .phase⟩, ⟨5, .phase⟩, ⟨6, .phase⟩, ⟨7, .phase⟩, ⟨8, .phase⟩, ⟨9, .textOnly Departure.lateStores⟩, ⟨10, .phase⟩], none⟩) rfl (fun K hK => ?_) (AllReadyH.nil)
          · go_simp
            try go_wp2_with fail
            refine hK.out _ _ ?_ (fun hH4 => ?_)
            · (try dsimp only); have := HX4.out.lt; exact KS.out _ (by repeat (first | exact HX5.out | with_reducible refine Bk.drwN ?_ _ | with_reducible refine Bk.drw ?_ | with_reducible refine Bk.al ?_ _ | (with_reducible refine Bk.far ?_ (by dsimp only; omega) _)))
            clear hK K hH3
            try simp only [Act.put, setIfInBounds_toArray, set_cons_zero, set_cons_succ]
            refine wpAnyH_take (i := 12) (oi := ⟨some 6, .assign (.tmp 30), 33, "law.go:121", #[⟨9, .data⟩, ⟨11, .chain⟩, ⟨0, .phase⟩, ⟨1, .phase⟩, ⟨2, .phase⟩, ⟨3, .phase⟩, ⟨4, .phase⟩, ⟨5, .phase⟩, ⟨6, .phase⟩, ⟨7, .phase⟩, ⟨8, .phase⟩, ⟨9, .phase⟩, ⟨10, .phase⟩, ⟨11, .phase⟩], none⟩) (v := ?_) rfl (by kernel_rfl) (by kernel_rfl) (by kernel_rfl) (fun _ _ _ h => h) (Or.inl ⟨by kernel_rfl, ?_⟩) (by assumption) ?_
            rotate_left
            · (intro w hSw; (try dsimp only at hSw); obtain ⟨d0, d1⟩ := hSw; go_simp; try with_reducible rfl)
            try simp only [Act.put, setIfInBounds_toArray, set_cons_zero, set_cons_succ]
            refine wpAnyH_done (by kernel_rfl) ?_ _
            refine NoPanic.normal ?_
            go_wp2_with fail
            go_meet
            have S4 := HC4.out.sz
            have S6 := HX4.out.lt
            have S7 := HX5.out.lt
            have S5 := HB5.out.size
            have GG := HQ2.out
            have S8 := HH5.out
            exact ⟨x5.heap.size, h5, c5, X, _, rfl, rfl, rfl, by omega, (by repeat (first | (refine Bk.nq _ _ _ ?_; simp; done) | with_reducible refine Bk.drwN ?_ _ | with_reducible refine Bk.drw ?_ | with_reducible refine Bk.al ?_ _)), HZ5.out.bel (by repeat (first | exact Bel.rf | with_reducible refine Bel.drwN ?_ _ | with_reducible refine Bel.drw ?_ | with_reducible refine Bel.al ?_ _)), by omega, HSX.out.1, HSX.out.2, (HO4.out.bel HB5.out).bel (by repeat (first | exact Bel.rf | with_reducible refine Bel.drwN ?_ _ | with_reducible refine Bel.drw ?_ | with_reducible refine Bel.al ?_ _)), (HC4.out.tr (Ch.of_bel HB5.out)).tr (Ch.of_bel (by repeat (first | exact Bel.rf | with_reducible refine Bel.drwN ?_ _ | with_reducible refine Bel.drw ?_ | with_reducible refine Bel.al ?_ _))), (by repeat (first | exact HX5.out | with_reducible refine Bk.drwN ?_ _ | with_reducible refine Bk.drw ?_ | with_reducible refine Bk.al ?_ _))⟩
      · go_simp
        try go_wp2_with fail
        refine hK.out _ _ ?_ (fun hH2 => ?_)
        · (try dsimp only); have := HX4.out.lt; exact KS.out _ (by repeat (first | exact HX4.out | with_reducible refine Bk.drwN ?_ _ | with_reducible refine Bk.drw ?_ | with_reducible refine Bk.al ?_ _))
        clear hK K hH1
        try simp only [Act.put, setIfInBounds_toArray, set_cons_zero, set_cons_succ]
        refine wpAnyH_ready (rs := [6]) (by kernel_rfl) (by simp) ?_
        refine AllReadyH.cons (o := ⟨some 28, .call { callee := Callee.value (.func 27), args := #[.tmp 25, .tmp 27], argTypes := #[22, 3] }, 65, "law.go:121", #[⟨3, .data⟩, ⟨5, .data⟩, ⟨3, .chain⟩], none⟩) rfl (fun K hK => ?_) (AllReadyH.nil)
        · go_simp
          go_at_call 27; refine (OF.out hx cx X _ HSX.out.1 HSX.out.2 HMC.out (HOX.out.bel (by repeat (first | exact Bel.rf | with_reducible refine Bel.drwN ?_ _ | with_reducible refine Bel.drw ?_ | with_reducible refine Bel.al ?_ _)))).mono ?_; rintro e x5 ⟨h5, c5, rfl, nc5, hh5, hz5, hb5⟩; have HB5 : Hid (Bel x4 x5) := Bel.tr (by repeat (first | exact Bel.rf | with_reducible refine Bel.drwN ?_ _ | with_reducible refine Bel.drw ?_ | with_reducible refine Bel.al ?_ _)) hb5; have HX5 : Hid (Bk x5 v2.heap.size 28 #[.int .i64 3, .int .i64 0, .int .i64 0, .int .i64 (m : Int), .int .i64 (n : Int), .slice A nc cc]) := HX4.out.bel HB5.out; have HZ5 := Lib.hid hz5; have HH5 : Hid (x4.heap.size ≤ h5) := Nat.le_trans (by (try simp)) hh5; have HU5 : Hid (Bk x5 x4.heap.size 64 #[.int .i64 0, .slice none 0 0, .int .i64 0]) := Bk.bel (by repeat (first | (refine Bk.nq _ _ _ ?_; simp; done) | with_reducible refine Bk.drwN ?_ _ | with_reducible refine Bk.drw ?_ | with_reducible refine Bk.al ?_ _)) hb5; have HUH : Hid (x4.heap.size < h5) := Nat.lt_of_lt_of_le (Nat.lt_succ_self _) (Nat.le_trans (by (try simp)) hh5); have y0 := HU5.out.cell 0; have y1 := HU5.out.cell 1; have y2 := HU5.out.cell 2; have z0 := HU5.out.fr 0; have z1 := HU5.out.fr 1; have z2 := HU5.out.fr 2; simp only [getElem?_toArray, getElem?_cons_zero, getElem?_cons_succ] at y0 y1 y2; clear hb5 hz5 hh5
          try go_wp2_with fail
          refine hK.out _ _ ?_ (fun hH3 => ?_)
          · (try dsimp only); have := HX4.out.lt; exact KS.out _ (by repeat (first | exact HX5.out | with_reducible refine Bk.drwN ?_ _ | with_reducible refine Bk.drw ?_ | with_reducible refine Bk.al ?_ _))
          clear hK K hH2
          try simp only [Act.put, setIfInBounds_toArray, set_cons_zero, set_cons_succ]
          refine wpAnyH_take (i := 7) (oi := ⟨some 21, .move (.tmp 28), 65, "law.go:121", #[⟨6, .data⟩], none⟩) (v := ?_) rfl (by kernel_rfl) (by kernel_rfl) (by kernel_rfl) (fun _ _ _ h => h) (Or.inl ⟨by kernel_rfl, ?_⟩) (by assumption) ?_
          rotate_left
          · (intro w hSw; (try dsimp only at hSw); obtain ⟨d0, d1⟩ := hSw; go_simp; try with_reducible rfl)
          try simp only [Act.put, setIfInBounds_toArray, set_cons_zero, set_cons_succ]
          refine wpAnyH_take (i := 8) (oi := ⟨some 29, .extract (.tmp 21) 0, 64, "law.go:121", #[⟨7, .data⟩], none⟩) (v := ?_) rfl (by kernel_rfl) (by kernel_rfl) (by kernel_rfl) (fun _ _ _ h => h) (Or.inl ⟨by kernel_rfl, ?_⟩) (by assumption) ?_
          rotate_left
          · (intro w hSw; (try dsimp only at hSw); obtain ⟨d0, d1⟩ := hSw; go_simp; try with_reducible rfl)
          try simp only [Act.put, setIfInBounds_toArray, set_cons_zero, set_cons_succ]
          refine wpAnyH_take (i := 9) (oi := ⟨some 30, .extract (.tmp 21) 1, 33, "law.go:121", #[⟨7, .data⟩, ⟨11, .gcOnly Departure.lateStores⟩], none⟩) (v := ?_) rfl (by kernel_rfl) (by kernel_rfl) (by kernel_rfl) (fun _ _ _ h => h) (Or.inl ⟨by kernel_rfl, ?_⟩) (by assumption) ?_
          rotate_left
          · (intro w hSw; (try dsimp only at hSw); obtain ⟨d0, d1⟩ := hSw; go_simp; try with_reducible rfl)
          try simp only [Act.put, setIfInBounds_toArray, set_cons_zero, set_cons_succ]
          refine wpAnyH_ready (rs := [11]) (by kernel_rfl) (by simp) ?_
          refine AllReadyH.cons (o := ⟨none, .store 64 (.tmp 5) (.tmp 29), 0, "law.go:121", #[⟨10, .data⟩, ⟨8, .data⟩, ⟨6, .chain⟩, ⟨0, .phase⟩, ⟨1, .phase⟩, ⟨2, .phase⟩, ⟨3, .phase⟩, ⟨4, .phase⟩, ⟨5, .phase⟩, ⟨6, .phase⟩, ⟨7, .phase⟩, ⟨8, .phase⟩, ⟨9, .textOnly Departure.lateStores⟩, ⟨10, .phase⟩], none⟩) rfl (fun K hK => ?_) (AllReadyH.nil)
          · go_simp
            try go_wp2_with fail
            refine hK.out _ _ ?_ (fun hH4 => ?_)
            · (try dsimp only); have := HX4.out.lt; exact KS.out _ (by repeat (first | exact HX5.out | with_reducible refine Bk.drwN ?_ _ | with_reducible refine Bk.drw ?_ | with_reducible refine Bk.al ?_ _ | (with_reducible refine Bk.far ?_ (by dsimp only; omega) _)))
            clear hK K hH3
            try simp only [Act.put, setIfInBounds_toArray, set_cons_zero, set_cons_succ]
            refine wpAnyH_take (i := 12) (oi := ⟨some 6, .assign (.tmp 30), 33, "law.go:121", #[⟨9, .data⟩, ⟨11, .chain⟩, ⟨0, .phase⟩, ⟨1, .phase⟩, ⟨2, .phase⟩, ⟨3, .phase⟩, ⟨4, .phase⟩, ⟨5, .phase⟩, ⟨6, .phase⟩, ⟨7, .phase⟩, ⟨8, .phase⟩, ⟨9, .phase⟩, ⟨10, .phase⟩, ⟨11, .phase⟩], none⟩) (v := ?_) rfl (by kernel_rfl) (by kernel_rfl) (by kernel_rfl) (fun _ _ _ h => h) (Or.inl ⟨by kernel_rfl, ?_⟩) (by assumption) ?_
            rotate_left
            · (intro w hSw; (try dsimp only at hSw); obtain ⟨d0, d1⟩ := hSw; go_simp; try with_reducible rfl)
            try simp only [Act.put, setIfInBounds_toArray, set_cons_zero, set_cons_succ]
            refine wpAnyH_done (by kernel_rfl) ?_ _
            refine NoPanic.normal ?_
            go_wp2_with fail
            go_meet
            have S4 := HC4.out.sz
            have S6 := HX4.out.lt
            have S7 := HX5.out.lt
            have S5 := HB5.out.size
            have GG := HQ2.out
            have S8 := HH5.out
            exact ⟨x4.heap.size, h5, c5, X, _, rfl, rfl, rfl, by omega, ((HU5.out.st 0 _).st 1 _).st 2 _, zi_far (zi_far (zi_far HZ5.out (by dsimp only; have := HUH.out; omega) _) (by dsimp only; have := HUH.out; omega) _) (by dsimp only; have := HUH.out; omega) _, by omega, HSX.out.1, HSX.out.2, (((HO4.out.bel HB5.out).st (by dsimp only; omega) _).st (by dsimp only; omega) _).st (by dsimp only; omega) _, (((HC4.out.tr (Ch.of_bel HB5.out)).st2 (by dsimp only; omega) _).st2 (by dsimp only; omega) _).st2 (by dsimp only; omega) _, ((HX5.out.far (by dsimp only; omega) _).far (by dsimp only; omega) _).far (by dsimp only; omega) _⟩
    · go_simp
      try go_wp2_with fail
      refine hK.out _ _ ?_ (fun hH1 => ?_)
      · (try dsimp only); exact KS.out _ (by repeat (first | exact HX2.out | with_reducible refine Bk.drwN ?_ _ | with_reducible refine Bk.drw ?_ | with_reducible refine Bk.al ?_ _))
      clear hK K hH0
      try simp only [Act.put, setIfInBounds_toArray, set_cons_zero, set_cons_succ]
      refine wpAnyH_ready (rs := [3]) (by kernel_rfl) (by simp) ?_
      refine AllReadyH.cons (o := ⟨some 25, .call { callee := Callee.value (.func 12), args := #[.tmp 22, .tmp 24], argTypes := #[23, 3] }, 22, "law.go:121", #[⟨0, .data⟩, ⟨2, .data⟩], none⟩) rfl (fun K hK => ?_) (AllReadyH.nil)
      · go_simp
        go_at_call 12; refine (LI.out _ (HO2.out.bel (by repeat (first | exact Bel.rf | with_reducible refine Bel.drwN ?_ _ | with_reducible refine Bel.drw ?_ | with_reducible refine Bel.al ?_ _)))).mono ?_; rintro e x4 ⟨vx, X, rfl, hox, hlx, hsx, ho4, hc4⟩; obtain ⟨hx, cx, rfl, mcx, hbx⟩ := row_form hox HM2.out; have HC4 : Hid (Ch g v2 x4) := (Ch.of_bel (by repeat (first | exact Bel.rf | with_reducible refine Bel.drwN ?_ _ | with_reducible refine Bel.drw ?_ | with_reducible refine Bel.al ?_ _))).tr hc4; have HX4 : Hid (Bk x4 v2.heap.size 28 #[.int .i64 3, .int .i64 0, .int .i64 0, .int .i64 (m : Int), .int .i64 (n : Int), .slice A nc cc]) := hc4.bk (by repeat (first | exact HX2.out | with_reducible refine Bk.drwN ?_ _ | with_reducible refine Bk.drw ?_ | with_reducible refine Bk.al ?_ _)) nq2; have HOX : Hid (Zi x4 (some ⟨hx, 0, none⟩) m X) := own_zi hox hlx; have HSX : Hid (Sam X ∧ X.length = m) := ⟨hsx, hlx⟩; have HO4 := Lib.hid ho4; have HMC := Lib.hid mcx; have HB4 : Hid (Bk x4 (v2.heap.size + 1) 64 #[.int .i64 0, .slice none 0 0, .int .i64 0]) := hc4.bk (by repeat (first | (refine Bk.nq _ _ _ ?_; simp; done) | with_reducible refine Bk.drwN ?_ _ | with_reducible refine Bk.drw ?_ | with_reducible refine Bk.al ?_ _)) (by have := HQ2.out; omega); clear hox hlx hsx ho4 hc4 mcx hbx
        try go_wp2_with fail
        refine hK.out _ _ ?_ (fun hH2 => ?_)
        · (try dsimp only); have := HX4.out.lt; exact KS.out _ (by repeat (first | exact HX4.out | with_reducible refine Bk.drwN ?_ _ | with_reducible refine Bk.drw ?_ | with_reducible refine Bk.al ?_ _))
        clear hK K hH1
        try simp only [Act.put, setIfInBounds_toArray, set_cons_zero, set_cons_succ]
        refine wpAnyH_ready (rs := [6]) (by kernel_rfl) (by simp) ?_
        refine AllReadyH.cons (o := ⟨some 28, .call { callee := Callee.value (.func 27), args := #[.tmp 25, .tmp 27], argTypes := #[22, 3] }, 65, "law.go:121", #[⟨3, .data⟩, ⟨5, .data⟩, ⟨3, .chain⟩], none⟩) rfl (fun K hK => ?_) (AllReadyH.nil)
        · go_simp
          go_at_call 27; refine (OF.out hx cx X _ HSX.out.1 HSX.out.2 HMC.out (HOX.out.bel (by repeat (first | exact Bel.rf | with_reducible refine Bel.drwN ?_ _ | with_reducible refine Bel.drw ?_ | with_reducible refine Bel.al ?_ _)))).mono ?_; rintro e x5 ⟨h5, c5, rfl, nc5, hh5, hz5, hb5⟩; have HB5 : Hid (Bel x4 x5) := Bel.tr (by repeat (first | exact Bel.rf | with_reducible refine Bel.drwN ?_ _ | with_reducible refine Bel.drw ?_ | with_reducible refine Bel.al ?_ _)) hb5; have HX5 : Hid (Bk x5 v2.heap.size 28 #[.int .i64 3, .int .i64 0, .int .i64 0, .int .i64 (m : Int), .int .i64 (n : Int), .slice A nc cc]) := HX4.out.bel HB5.out; have HZ5 := Lib.hid hz5; have HH5 : Hid (x4.heap.size ≤ h5) := Nat.le_trans (by (try simp)) hh5; have HU5 := Lib.hid (HB4.out.bel HB5.out); have hul : v2.heap.size + 1 < x4.heap.size := HB4.out.lt; have HUH : Hid (v2.heap.size + 1 < h5) := Nat.lt_of_lt_of_le hul HH5.out; have y0 := HU5.out.cell 0; have y1 := HU5.out.cell 1; have y2 := HU5.out.cell 2; have z0 := HU5.out.fr 0; have z1 := HU5.out.fr 1; have z2 := HU5.out.fr 2; simp only [getElem?_toArray, getElem?_cons_zero, getElem?_cons_succ] at y0 y1 y2; clear hb5 hz5 hh5
          try go_wp2_with fail
          refine hK.out _ _ ?_ (fun hH3 => ?_)
          · (try dsimp only); have := HX4.out.lt; exact KS.out _ (by repeat (first | exact HX5.out | with_reducible refine Bk.drwN ?_ _ | with_reducible refine Bk.drw ?_ | with_reducible refine Bk.al ?_ _))
          clear hK K hH2
          try simp only [Act.put, setIfInBounds_toArray, set_cons_zero, set_cons_succ]
          refine wpAnyH_take (i := 7) (oi := ⟨some 21, .move (.tmp 28), 65, "law.go:121", #[⟨6, .data⟩], none⟩) (v := ?_) rfl (by kernel_rfl) (by kernel_rfl) (by kernel_rfl) (fun _ _ _ h => h) (Or.inl ⟨by kernel_rfl, ?_⟩) (by assumption) ?_
          rotate_left
          · (intro w hSw; (try dsimp only at hSw); obtain ⟨d0, d1⟩ := hSw; go_simp; try with_reducible rfl)
          try simp only [Act.put, setIfInBounds_toArray, set_cons_zero, set_cons_succ]
          refine wpAnyH_take (i := 8) (oi := ⟨some 29, .extract (.tmp 21) 0, 64, "law.go:121", #[⟨7, .data⟩], none⟩) (v := ?_) rfl (by kernel_rfl) (by kernel_rfl) (by kernel_rfl) (fun _ _ _ h => h) (Or.inl ⟨by kernel_rfl, ?_⟩) (by assumption) ?_
          rotate_left
          · (intro w hSw; (try dsimp only at hSw); obtain ⟨d0, d1⟩ := hSw; go_simp; try with_reducible rfl)
          try simp only [Act.put, setIfInBounds_toArray, set_cons_zero, set_cons_succ]
          refine wpAnyH_take (i := 9) (oi := ⟨some 30, .extract (.tmp 21) 1, 33, "law.go:121", #[⟨7, .data⟩, ⟨11, .gcOnly Departure.lateStores⟩], none⟩) (v := ?_) rfl (by kernel_rfl) (by kernel_rfl) (by kernel_rfl) (fun _ _ _ h => h) (Or.inl ⟨by kernel_rfl, ?_⟩) (by assumption) ?_
          rotate_left
          · (intro w hSw; (try dsimp only at hSw); obtain ⟨d0, d1⟩ := hSw; go_simp; try with_reducible rfl)
          try simp only [Act.put, setIfInBounds_toArray, set_cons_zero, set_cons_succ]
          refine wpAnyH_ready (rs := [11]) (by kernel_rfl) (by simp) ?_
          refine AllReadyH.cons (o := ⟨none, .store 64 (.tmp 5) (.tmp 29), 0, "law.go:121", #[⟨10, .data⟩, ⟨8, .data⟩, ⟨6, .chain⟩, ⟨0, .phase⟩, ⟨1, .phase⟩, ⟨2, .phase⟩, ⟨3, .phase⟩, ⟨4, .phase⟩, ⟨5, .phase⟩, ⟨6, .phase⟩, ⟨7, .phase⟩, ⟨8, .phase⟩, ⟨9, .textOnly Departure.lateStores⟩, ⟨10, .phase⟩], none⟩) rfl (fun K hK => ?_) (AllReadyH.nil)
          · go_simp
            try go_wp2_with fail
            refine hK.out _ _ ?_ (fun hH4 => ?_)
            · (try dsimp only); have := HX4.out.lt; exact KS.out _ (by repeat (first | exact HX5.out | with_reducible refine Bk.drwN ?_ _ | with_reducible refine Bk.drw ?_ | with_reducible refine Bk.al ?_ _ | (with_reducible refine Bk.far ?_ (by dsimp only; omega) _)))
            clear hK K hH3
            try simp only [Act.put, setIfInBounds_toArray, set_cons_zero, set_cons_succ]
            refine wpAnyH_take (i := 12) (oi := ⟨some 6, .assign (.tmp 30), 33, "law.go:121", #[⟨9, .data⟩, ⟨11, .chain⟩, ⟨0, .phase⟩, ⟨1, .phase⟩, ⟨2, .phase⟩, ⟨3, .phase⟩, ⟨4, .phase⟩, ⟨5, .phase⟩, ⟨6, .phase⟩, ⟨7, .phase⟩, ⟨8, .phase⟩, ⟨9, .phase⟩, ⟨10, .phase⟩, ⟨11, .phase⟩], none⟩) (v := ?_) rfl (by kernel_rfl) (by kernel_rfl) (by kernel_rfl) (fun _ _ _ h => h) (Or.inl ⟨by kernel_rfl, ?_⟩) (by assumption) ?_
            rotate_left
            · (intro w hSw; (try dsimp only at hSw); obtain ⟨d0, d1⟩ := hSw; go_simp; try with_reducible rfl)
            try simp only [Act.put, setIfInBounds_toArray, set_cons_zero, set_cons_succ]
            refine wpAnyH_done (by kernel_rfl) ?_ _
            refine NoPanic.normal ?_
            go_wp2_with fail
            go_meet
            have S4 := HC4.out.sz
            have S6 := HX4.out.lt
            have S7 := HX5.out.lt
            have S5 := HB5.out.size
            have GG := HQ2.out
            have S8 := HH5.out
            exact ⟨(v2.heap.size + 1), h5, c5, X, _, rfl, rfl, rfl, by omega, ((HU5.out.st 0 _).st 1 _).st 2 _, zi_far (zi_far (zi_far HZ5.out (by dsimp only; have := HUH.out; omega) _) (by dsimp only; have := HUH.out; omega) _) (by dsimp only; have := HUH.out; omega) _, by omega, HSX.out.1, HSX.out.2, (((HO4.out.bel HB5.out).st (by dsimp only; omega) _).st (by dsimp only; omega) _).st (by dsimp only; omega) _, (((HC4.out.tr (Ch.of_bel HB5.out)).st2 (by dsimp only; omega) _).st2 (by dsimp only; omega) _).st2 (by dsimp only; omega) _, ((HX5.out.far (by dsimp only; omega) _).far (by dsimp only; omega) _).far (by dsimp only; omega) _⟩
  case rest =>
    obtain ⟨u, a, c, X, wx, hwx, rfl, rfl, hu, hku, hskz, hau, hsx, hlx, hox, hcx, hkx⟩ := hcut
    subst hwx
    have HKU := Lib.hid hku
    have HKX := Lib.hid hkx
    have HOX := Lib.hid hox
    have HSK := Lib.hid hskz
    have HSX : Hid (Sam X ∧ X.length = m) := ⟨hsx, hlx⟩
    have HBX : Hid (Bel w wx) := Bel.ch HB2.out hcx HG.out
    have HUA : Hid (g < u ∧ g < a ∧ g < wx.heap.size) := ⟨by have := HQ2.out; omega, by have := HQ2.out; omega, hox.lt⟩
    have HW0 : Hid (Wr g wx.heap.size wx wx (.slice none 0 0) (.slice none 0 0) 0 0 [] []) := ⟨World.ownsRow_nil _ _ _ _, World.ownsRow_nil _ _ _ _, fun b e => (by cases e), hox, Ch.rf, Nat.le_refl _, hox.lt, Nat.le_refl _⟩
    clear hku hskz hau hsx hlx hox hcx hkx hu LI OF
    go_wp2_with fail
    go_loopw [9, 7, 8] (fun s9 s7 s8 wr => ∃ (p : Nat) (u v : Value) (S B : List Rp) (V : World), V = wr ∧ u = s7 ∧ v = s8 ∧ s9 = .int .i64 (p : Int) ∧ p ≤ n ∧ Nrw p S B ∧ Wr g wx.heap.size wx wr u v p p S B) (fun s9 _ _ _ => n - (intOf s9).toNat)
    case atStart => exact ⟨0, _, _, [], [], _, rfl, rfl, rfl, by go_num, by omega, ⟨rfl, rfl, fun i hi => by omega⟩, HW0.out.up (by repeat (first | exact Bel.rf | with_reducible refine Bel.drwN ?_ _ | with_reducible refine Bel.drw ?_ | with_reducible refine Bel.al ?_ _))⟩
    case round =>
      obtain ⟨p, uu, vv, S, B, wr, hwr, hu, hv, rfl, hp, hnr, hwq⟩ := hrel
      subst hwr hu hv
      have HNR := Lib.hid hnr
      have HWQ := Lib.hid hwq
      have hkw : Bk wr v2.heap.size 28 #[.int .i64 3, .int .i64 0, .int .i64 0, .int .i64 (m : Int), .int .i64 (n : Int), .slice A nc cc] := hwq.ch.bk HKX.out (by have := HQ2.out; omega)
      obtain ⟨b3, b4⟩ := KS.out wr hkw
      clear hnr hwq hkw
      rcases Nat.lt_or_ge p n with hlt | hge
      · have pi : (p : Int) < (n : Int) := by omega
        go_wp2_with fail
        go_at_call 28
        refine (range_any g (-400) 400 (by decide) (by decide) (by decide) _ (HWQ.out.ok.bel (by repeat (first | exact Bel.rf | with_reducible refine Bel.drwN ?_ _ | with_reducible refine Bel.drw ?_ | with_reducible refine Bel.al ?_ _)))).mono ?_
        rintro e w1 ⟨lo, rfl, lo1, lo2, ho, hc⟩
        have HQ1 := Lib.hid (HWQ.out.to ho ((Ch.of_bel (by repeat (first | exact Bel.rf | with_reducible refine Bel.drwN ?_ _ | with_reducible refine Bel.drw ?_ | with_reducible refine Bel.al ?_ _))).tr hc))
        clear ho hc b3 b4
        go_wp2_with fail
        go_at_call 21
        refine (n_any g 300 (by decide) (by decide) _ (HQ1.out.ok.bel (by repeat (first | exact Bel.rf | with_reducible refine Bel.drwN ?_ _ | with_reducible refine Bel.drw ?_ | with_reducible refine Bel.al ?_ _)))).mono ?_
        rintro e w2 ⟨y, rfl, y0, y1, ho, hc⟩
        have HQ3 := Lib.hid (HQ1.out.to ho ((Ch.of_bel (by repeat (first | exact Bel.rf | with_reducible refine Bel.drwN ?_ _ | with_reducible refine Bel.drw ?_ | with_reducible refine Bel.al ?_ _))).tr hc))
        have HI1 : Hid (p + 1 ≤ 1000000) := (by have := HN8.out; omega : _ ≤ _)
        obtain ⟨hi, hhi⟩ : ∃ z, lo + y = z := ⟨_, rfl⟩
        have HHI : Hid (-400 ≤ lo ∧ lo ≤ hi ∧ hi ≤ 700) := ⟨by omega, by omega, by omega⟩
        have HLY := Lib.hid hhi
        clear ho hc
        go_wp2_with (at_builtin; refine list_appg _ rfl _ _ 41 45 (.agg #[.int .i64 0, .int .i64 0]) 2 16 Try.underlying41 info_ivl rfl (by decide) rfl wx.heap.size uu p (rs S) rfl (own_bel HQ3.out.ou (by repeat (first | exact Bel.rf | with_reducible refine Bel.drwN ?_ _ | with_reducible refine Bel.drw ?_ | with_reducible refine Bel.al ?_ _))) ⟨w2.heap.size, 0, none⟩ 1 1 [.int .i64 lo, .int .i64 hi] rfl rfl (World.news_of_block (cs := #[.int .i64 lo, .int .i64 hi]) (t := 45) (fr := (0, 0)) ((by repeat (first | (refine Bk.nq _ _ _ ?_; simp; done) | with_reducible refine Bk.drwN ?_ _ | with_reducible refine Bk.drw ?_ | with_reducible refine Bk.al ?_ _)) : Bk _ w2.heap.size 45 #[.int .i64 lo, .int .i64 hi])) (by simp [Value.oneCell']) HI1.out (by decide) (by have := HQ3.out.sz; simp; omega) ?_; intro v7 x7 h7 hg7 ha7; have HQ7 : Hid (Wr g wx.heap.size wx x7 v7 vv (p + 1) p (S ++ [(lo, hi)]) B) := (HQ3.out.up (by repeat (first | exact Bel.rf | with_reducible refine Bel.drwN ?_ _ | with_reducible refine Bel.drw ?_ | with_reducible refine Bel.al ?_ _))).ax (by rw [rs_snoc]; exact h7) hg7 ha7; clear h7 hg7 ha7)
        go_at_call 21
        refine (n_any g (hi - lo + 1) (by omega) (by omega) _ (HQ7.out.ok.bel (by repeat (first | exact Bel.rf | with_reducible refine Bel.drwN ?_ _ | with_reducible refine Bel.drw ?_ | with_reducible refine Bel.al ?_ _)))).mono ?_
        rintro e w3 ⟨d, rfl, d0, d1, ho, hc⟩
        have HQ8 := Lib.hid (HQ7.out.to ho ((Ch.of_bel (by repeat (first | exact Bel.rf | with_reducible refine Bel.drwN ?_ _ | with_reducible refine Bel.drw ?_ | with_reducible refine Bel.al ?_ _))).tr hc))
        obtain ⟨x, hx⟩ : ∃ z, lo + d = z := ⟨_, rfl⟩
        have HXX : Hid (lo ≤ x ∧ x ≤ hi) := ⟨by omega, by omega⟩
        have x1 : lo ≤ x := by omega
        have x2 : x ≤ hi := by omega
        have h3 := HHI.out
        obtain ⟨h31, h32, h33⟩ := h3
        clear ho hc hhi y0 y1
        go_wp2_with fail
        go_at_call 21
        refine (n_any g (hi - x + 1) (by omega) (by omega) _ (HQ8.out.ok.bel (by repeat (first | exact Bel.rf | with_reducible refine Bel.drwN ?_ _ | with_reducible refine Bel.drw ?_ | with_reducible refine Bel.al ?_ _)))).mono ?_
        rintro e w4 ⟨d', rfl, d0', d1', ho, hc⟩
        have HQ9 := Lib.hid (HQ8.out.to ho ((Ch.of_bel (by repeat (first | exact Bel.rf | with_reducible refine Bel.drwN ?_ _ | with_reducible refine Bel.drw ?_ | with_reducible refine Bel.al ?_ _))).tr hc))
        obtain ⟨yv, hyv⟩ : ∃ z, x + d' = z := ⟨_, rfl⟩
        have HYY : Hid (x ≤ yv ∧ yv ≤ hi) := ⟨by omega, by omega⟩
        have y1' : x ≤ yv := by omega
        have y2' : yv ≤ hi := by omega
        clear ho hc hx d0 d1
        go_wp2_with (at_builtin; refine list_appg _ rfl _ _ 41 45 (.agg #[.int .i64 0, .int .i64 0]) 2 16 Try.underlying41 info_ivl rfl (by decide) rfl wx.heap.size vv p (rs B) rfl (own_bel HQ9.out.ov (by repeat (first | exact Bel.rf | with_reducible refine Bel.drwN ?_ _ | with_reducible refine Bel.drw ?_ | with_reducible refine Bel.al ?_ _))) ⟨w4.heap.size, 0, none⟩ 1 1 [.int .i64 x, .int .i64 yv] rfl rfl (World.news_of_block (cs := #[.int .i64 x, .int .i64 yv]) (t := 45) (fr := (0, 0)) ((by repeat (first | (refine Bk.nq _ _ _ ?_; simp; done) | with_reducible refine Bk.drwN ?_ _ | with_reducible refine Bk.drw ?_ | with_reducible refine Bk.al ?_ _)) : Bk _ w4.heap.size 45 #[.int .i64 x, .int .i64 yv])) (by simp [Value.oneCell']) HI1.out (by decide) (by have := HQ9.out.sz; simp; omega) ?_; intro v12 x12 h12 hg12 ha12; have HQ12 : Hid (Wr g wx.heap.size wx x12 v7 v12 (p + 1) (p + 1) (S ++ [(lo, hi)]) (B ++ [(x, yv)])) := ((HQ9.out.up (by repeat (first | exact Bel.rf | with_reducible refine Bel.drwN ?_ _ | with_reducible refine Bel.drw ?_ | with_reducible refine Bel.al ?_ _))).sx.ax (by rw [rs_snoc]; exact h12) hg12 ha12).sx; clear h12 hg12 ha12)
        go_roundw
        case rel => exact ⟨p + 1, _, _, _, _, _, rfl, rfl, rfl, by go_num, by omega, nrw_snoc HNR.out HHI.out.1 HXX.out.1 HYY.out.1 HYY.out.2 HHI.out.2.2, HQ12.out.up (by repeat (first | exact Bel.rf | with_reducible refine Bel.drwN ?_ _ | with_reducible refine Bel.drw ?_ | with_reducible refine Bel.al ?_ _))⟩
        case measure => simp [intOf]; omega
      · obtain rfl : p = n := by omega
        obtain ⟨A1, c1, e1, k1⟩ := own_any HWQ.out.ou
        obtain ⟨h1, e1'⟩ := k1 HN1.out
        obtain ⟨A2, c2, e2, k2⟩ := own_any HWQ.out.ov
        obtain ⟨h2, e2'⟩ := k2 HN1.out
        subst e1 e2
        subst e1' e2'
        have HZV : Hid (Zv wr h1 p S ∧ Zv wr h2 p B) := ⟨row_zv HWQ.out.ou HNR.out.1, row_zv HWQ.out.ov HNR.out.2.1⟩
        have HKW : Hid (Bk wr u 64 #[.int .i64 (m : Int), .slice (some ⟨a, 0, none⟩) p c, .int .i64 ((m : Int) * vr X)]) := HWQ.out.ch.bk HKU.out (by have := HUA.out.1; omega)
        have HSW : Hid (Skz wr a p m X) := ⟨HSK.out.1, fun h0 => (Zi.ch HSK.out HWQ.out.ch (fun ad e => by cases e; have := HUA.out.2.1; show a ≠ g; omega)).2 h0⟩
        have HBW : Hid (Bel w wr) := Bel.ch HBX.out HWQ.out.ch HG.out
        have SR1 : Hid (∀ W, Bel wr W → Calls Try.prog 29 #[.agg #[.int .i64 (m : Int), .slice (some ⟨a, 0, none⟩) p c, .int .i64 ((m : Int) * vr X)], .slice (some ⟨h1, 0, none⟩) p c1] W fun e w' => (∃ t u, e = .returned (.tuple #[.agg #[.int .i64 t, .int .i64 u], .int .i64 0]) ∧ Vl t u (rT m p X S) (rC m p X)) ∧ Bel W w') := fun W hW => sreg_ok a c m p h1 c1 X S HS.out.m2 HS.out.m32 HN1.out HN8.out HS.out.nm HSX.out.1 HSX.out.2 (fun i hi => by have := HNR.out.2.2 i hi; omega) (fun i hi => by have := HNR.out.2.2 i hi; omega) W (Skz.bel HSW.out hW) (HZV.out.1.bel hW)
        have SR2 : Hid (∀ W, Bel wr W → Calls Try.prog 29 #[.agg #[.int .i64 (m : Int), .slice (some ⟨a, 0, none⟩) p c, .int .i64 ((m : Int) * vr X)], .slice (some ⟨h2, 0, none⟩) p c2] W fun e w' => (∃ t u, e = .returned (.tuple #[.agg #[.int .i64 t, .int .i64 u], .int .i64 0]) ∧ Vl t u (rT m p X B) (rC m p X)) ∧ Bel W w') := fun W hW => sreg_ok a c m p h2 c2 X B HS.out.m2 HS.out.m32 HN1.out HN8.out HS.out.nm HSX.out.1 HSX.out.2 (fun i hi => by have := HNR.out.2.2 i hi; omega) (fun i hi => by have := HNR.out.2.2 i hi; omega) W (Skz.bel HSW.out hW) (HZV.out.2.bel hW)
        have HLE : Hid (rT m p X S ≤ rT m p X B) := rT_mono HS.out.m32 HN1.out HS.out.nm (fun i hi => by have := HNR.out.2.2 i hi; omega)
        have HCP : Hid (1 ≤ rC m p X) := rC_pos HS.out.m32 HN1.out HS.out.nm
        obtain ⟨T1, hT1⟩ : ∃ z, rT m p X S = z := ⟨_, rfl⟩
        obtain ⟨T2, hT2⟩ : ∃ z, rT m p X B = z := ⟨_, rfl⟩
        obtain ⟨CC, hCC⟩ : ∃ z, rC m p X = z := ⟨_, rfl⟩
        obtain ⟨E, hE⟩ : ∃ z, (m : Int) * vr X = z := ⟨_, rfl⟩
        rw [hT1, hCC, hE] at SR1
        rw [hT2, hCC, hE] at SR2
        rw [hT1, hT2] at HLE
        rw [hCC] at HCP
        rw [hE] at HKW
        have k0 := HKW.out.cell 0
        have k1 := HKW.out.cell 1
        have k2 := HKW.out.cell 2
        simp only [getElem?_toArray, getElem?_cons_zero, getElem?_cons_succ] at k0 k1 k2
        clear hT1 hT2 hCC hE
        go_wp2_with fail
        go_at_call 29
        refine (SR1.out _ (by repeat (first | exact Bel.rf | with_reducible refine Bel.drwN ?_ _ | with_reducible refine Bel.drw ?_ | with_reducible refine Bel.al ?_ _))).mono ?_
        rintro e y1 ⟨⟨t1, q1, rfl, hv1⟩, hb⟩
        have HV1 := Lib.hid hv1
        have G1 : Hid (Bel wr y1) := Bel.tr (by repeat (first | exact Bel.rf | with_reducible refine Bel.drwN ?_ _ | with_reducible refine Bel.drw ?_ | with_reducible refine Bel.al ?_ _)) hb
        have HR1 : Hid (Bk (y1.alloc (.cells #[.int .i64 t1, .int .i64 q1] 69)) y1.heap.size 69 #[.int .i64 t1, .int .i64 q1]) := Bk.nw _ _ _
        have GB1 : Hid (Bel y1 (y1.alloc (.cells #[.int .i64 t1, .int .i64 q1] 69))) := Bel.rf.al _
        have k0 := fun o => (G1.out.al o).kp k0
        have k1 := fun o => (G1.out.al o).kp k1
        have k2 := fun o => (G1.out.al o).kp k2
        clear hb hv1
        go_wp2_with fail
        go_at_call 29
        refine (SR2.out _ (G1.out.tr (GB1.out.tr (by repeat (first | exact Bel.rf | with_reducible refine Bel.drwN ?_ _ | with_reducible refine Bel.drw ?_ | with_reducible refine Bel.al ?_ _))))).mono ?_
        rintro e y2 ⟨⟨t2, q2, rfl, hv2⟩, hb⟩
        have HV2 := Lib.hid hv2
        have hby : Bel (y1.alloc (.cells #[.int .i64 t1, .int .i64 q1] 69)) y2 := Bel.tr (by repeat (first | exact Bel.rf | with_reducible refine Bel.drwN ?_ _ | with_reducible refine Bel.drw ?_ | with_reducible refine Bel.al ?_ _)) hb
        have G2 : Hid (Bel wr y2) := G1.out.tr (GB1.out.tr hby)
        have HR1' := Lib.hid (HR1.out.bel hby)
        have KC : Hid (∀ W, Bel (y2.alloc (.cells #[.int .i64 t2, .int .i64 q2] 69)) W → W.cell? ⟨y1.heap.size, 0, none⟩ = some (.int .i64 t1) ∧ W.cell? ⟨y1.heap.size, 1, none⟩ = some (.int .i64 q1) ∧ W.cell? ⟨y2.heap.size, 0, none⟩ = some (.int .i64 t2) ∧ W.cell? ⟨y2.heap.size, 1, none⟩ = some (.int .i64 q2)) := fun W hW => by
          have b1 := (HR1'.out.al _).bel hW
          have b2 := (Bk.nw y2 69 #[.int .i64 t2, .int .i64 q2]).bel hW
          have u0 := b1.cell 0
          have u1 := b1.cell 1
          have u2 := b2.cell 0
          have u3 := b2.cell 1
          simp only [getElem?_toArray, getElem?_cons_zero, getElem?_cons_succ] at u0 u1 u2 u3
          exact ⟨u0, u1, u2, u3⟩
        have GB2 : Hid (Bel y2 (y2.alloc (.cells #[.int .i64 t2, .int .i64 q2] 69))) := Bel.rf.al _
        obtain ⟨d0, d1, d2, d3⟩ := KC.out _ Bel.rf
        clear hb hby hv2 k0 k1 k2
        go_wp2_with fail
        go_at_call 30
        refine (rvalid_ok t1 q1 HV1.out.1 _).mono ?_
        rintro e y3 ⟨rfl, hb⟩
        have G3 : Hid (Bel (y2.alloc (.cells #[.int .i64 t2, .int .i64 q2] 69)) y3) := Bel.tr (by repeat (first | exact Bel.rf | with_reducible refine Bel.drwN ?_ _ | with_reducible refine Bel.drw ?_ | with_reducible refine Bel.al ?_ _)) hb
        clear hb d0 d1 d2 d3
        obtain ⟨d0, d1, d2, d3⟩ := KC.out _ G3.out
        go_wp2_with fail
        go_at_call 30
        refine (rvalid_ok t2 q2 HV2.out.1 _).mono ?_
        rintro e y4 ⟨rfl, hb⟩
        have G4 : Hid (Bel (y2.alloc (.cells #[.int .i64 t2, .int .i64 q2] 69)) y4) := G3.out.tr (Bel.tr (by repeat (first | exact Bel.rf | with_reducible refine Bel.drwN ?_ _ | with_reducible refine Bel.drw ?_ | with_reducible refine Bel.al ?_ _)) hb)
        clear hb d0 d1 d2 d3
        obtain ⟨d0, d1, d2, d3⟩ := KC.out _ G4.out
        go_wp2_with fail
        go_at_call 31
        refine (cmp_le HCP.out HV1.out HV2.out HLE.out _).mono ?_
        rintro e y5 ⟨cz, rfl, hcz, hb⟩
        have G5 : Hid (Bel (y2.alloc (.cells #[.int .i64 t2, .int .i64 q2] 69)) y5) := G4.out.tr (Bel.tr (by repeat (first | exact Bel.rf | with_reducible refine Bel.drwN ?_ _ | with_reducible refine Bel.drw ?_ | with_reducible refine Bel.al ?_ _)) hb)
        have dcz : decide (cz ≤ 0) = true := decide_eq_true hcz
        clear hb d0 d1 d2 d3
        go_wp2_with (go_at_call 32; refine (AW.out _).mono ?_; rintro e v9 ⟨rfl, h9⟩; have HB9 : Hid (Bel (y2.alloc (.cells #[.int .i64 t2, .int .i64 q2] 69)) v9) := G5.out.tr (Bel.tr (by repeat (first | exact Bel.rf | with_reducible refine Bel.drwN ?_ _ | with_reducible refine Bel.drw ?_ | with_reducible refine Bel.al ?_ _)) h9); clear h9)
        go_ret
        exact ⟨rfl, (HBW.out.tr (G2.out.tr (GB2.out.tr HB9.out))).bl⟩

set_option maxRecDepth 100000 in
theorem lifted (os : Os) (started : os.Started) (H : Type) (enc : TypeId × Value → H) :
    ReturnsInHanded {} Try.checked os 8 .any (Rows.sketchNarrowSpec.pre6 enc Try.prog Try.f8 Rows.sketchNarrowRow.domain false) (Rows.sketchNarrowSpec.post enc Try.prog Try.f8 false true false false) := by
  refine returnsInHanded_of_change (C := Try.checked) own started (by kernel_rfl) Try.func8
    (ChangeSpec.witness6 (enc := enc) (C := Try.checked) false ⟨#[], #[.slice none 0 0], []⟩ 8 (by kernel_rfl) (by kernel_rfl) (by kernel_rfl) (by kernel_rfl)) ?_
  intro W base args ds gs before hval0 hW hcnd _
  have hval : ∀ (j : Nat) t v, Try.f8.params[j]? = some t → args[j]? = some v → Value.okWide Try.prog W .any base t v := hval0
  have hW' := hW
  obtain ⟨p, q, hA0, hV, rfl, hfz, hnd⟩ := hW
  have hA : DataW.TrodAll enc Try.prog W 0 (fun _ => true) true Try.f8.params.toList args.toList ds p := hA0
  rw [Try.params8] at hA hval
  obtain ⟨v0, vs0, d0, ds0, p0, q0, hargs, rfl, rfl, h0, r0⟩ := trodAll_cons hA
  obtain ⟨rfl, rfl, rfl⟩ := trodAll_nil r0
  obtain rfl : args = #[v0] := by cases args; simp_all
  obtain ⟨rfl, rfl⟩ := trodVars_none hV
  obtain ⟨a0, len0, cap0, rfl⟩ := okWide_slice Try.underlying22 (hval 0 22 v0 rfl rfl)
  have k0 := h0
  have lt0 : ∀ x ∈ p0, x.block < W.heap.size := by obtain ⟨m, hm⟩ := k0; exact DataW.trod_lt m _ _ _ hm
  obtain ⟨z0, w0⟩ : ∃ zs, IsRow .i64 W a0 len0 cap0 zs := by
    obtain ⟨fuel, hf⟩ := h0
    rcases open_ints Try.underlying22 Try.underlying3 (by kernel_rfl) hf with ⟨hcs, _⟩ | ⟨x, l, c, zs, hcs, _, hl, hm, hz, _, hcell, hwz⟩
    · simp [Value.cells] at hcs
      obtain ⟨rfl, rfl, rfl⟩ := hcs
      exact ⟨[], .inl ⟨rfl, rfl, rfl, rfl⟩⟩
    · simp [Value.cells] at hcs
      obtain ⟨rfl, rfl, rfl⟩ := hcs
      exact ⟨zs, .inr ⟨_, rfl, hl, hm, by simpa using hz, hcell, hwz⟩⟩
  clear hA0 hval0
  refine (walk a0 len0 cap0 z0 W w0).mono fun e W' ⟨he, bel⟩ => ?_
  subst he
  exact ⟨_, rfl, _, _, _, [], _, [], hW', trodAll_mk1 (shut_bool Try.underlying4 _), (trodAll_cons_mk (Below.trod laidOut (by kernel_rfl) (of_decide_eq_true (by kernel_rfl)) k0 bel lt0) trodAll_mk0), rfl, bel.frame _, fun h => by cases h⟩

theorem over : Rows.sketchNarrowRow.holds Try.pinned (OpenSpec.ofChange Rows.sketchNarrowSpec) :=
  OpenClaim.holds_of_wide 8 Try.f8 rfl rfl rfl rfl rfl rfl rfl ⟨rfl, rfl, rfl, rfl, rfl⟩ rfl rfl rfl rfl rfl (by kernel_rfl) Try.func8 (by kernel_rfl)
    (of_decide_eq_true (by kernel_rfl)) (by unfold Func.isWrapper; first | (rw [if_pos (by decide +kernel)]; kernel_rfl) | (rw [if_neg (by decide +kernel)]; exact ⟨rfl, rfl⟩))
    (fun os started H enc _ => lifted os started H enc)

theorem proved : Rows.SketchNarrowSaid := over
end Go.Proofs.Ytgdhgeongdenpaa.sketchNarrow
