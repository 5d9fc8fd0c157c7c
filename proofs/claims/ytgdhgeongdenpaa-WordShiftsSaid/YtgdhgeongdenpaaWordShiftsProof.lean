/- That the law WordShifts returns true for every input that can be read, and leaves its arguments as they were; no further condition. -/
import Derived.Test.YtgdhgeongdenpaaRows
import Derived.WalkKit
import Derived.ProofKit
import Derived.OpenShut
import Derived.Test.YtgdhgeongdenpaaWords
import Derived.Test.YtgdhgeongdenpaaSrcNew0
import Derived.Test.YtgdhgeongdenpaaWd15
import Derived.Test.YtgdhgeongdenpaaWd13
import Derived.Test.YtgdhgeongdenpaaWdU
import Derived.ShutString
import Derived.ChangeOld
import Derived.Below
namespace Go.Proofs.Ytgdhgeongdenpaa.wordShifts
open Go.ChangeShapes Go.WideShapes Go.ChangeAt Go.RowKit Wo
open Go.ChangeMaps (open_string shut_string)
set_option linter.unusedVariables false

theorem own : ownKnob Try.prog.godebug = none := by kernel_rfl
theorem laidOut : laidOutB Try.prog = true := by kernel_rfl

/-- WHAT THE WALK IS TOLD OF A SLICE OF INTEGERS THAT CAME IN: it is nil; or it leads to a row of 'cap' cells, the numbers 'zs' (the first 'len' are its elements, the rest its spare room), each fitting its kind. -/
def IsRow (k : IntKind) (w : World) (a : Option Addr) (len cap : Nat) (zs : List Int) : Prop :=
  (a = none ∧ len = 0 ∧ cap = 0 ∧ zs = []) ∨
  ∃ x, a = some x ∧ len ≤ cap ∧ cap ≤ maxLen ∧ zs.length = cap ∧ (∀ i, i < zs.length → w.cell? (x.add i) = some (.int k (zs.getD i 0))) ∧ ∀ n ∈ zs, (Lit.int k n).wf = true

open Go.Proofs.Ytgdhgeongdenpaa.Wd Go.Proofs.Ytgdhgeongdenpaa.Rt Go.Proofs.Ytgdhgeongdenpaa.Nr Go.Proofs.Ytgdhgeongdenpaa.Pc Go.Proofs.Ytgdhgeongdenpaa.Wi Go.Proofs.Ytgdhgeongdenpaa.Wo Go.Proofs.Ytgdhgeongdenpaa.Sr in
open List (setIfInBounds_toArray set_cons_zero set_cons_succ getElem?_toArray getElem?_cons_zero getElem?_cons_succ) in
set_option maxHeartbeats 16000000 in
set_option maxRecDepth 100000 in
set_option linter.unusedSimpArgs false in
theorem walk (a0 : Option Addr) (len0 cap0 : Nat) (z0 : List Int) (a1 : Int) (a2 : Int) (w : World) (w0 : IsRow .i64 w a0 len0 cap0 z0) (w1 : (Lit.int .i8 a1).wf = true) (w2 : (Lit.int .u8 a2).wf = true) :
    Calls Try.prog 7 #[.slice a0 len0 cap0, .int .i8 a1, .int .u8 a2] w fun e w' => e = .returned (.bool true) ∧ Below w.heap.size w w' := by
  have w1' := bounds_i8 w1
  have HA1 := Lib.hid w1'
  have w2' := bounds_u8 w2
  have HA2 := Lib.hid w2'
  clear w1 w1' w2 w2'
  have AW : Hid (∀ W, Calls Try.prog 19 #[] W fun e w' => e = .returned (.bool true) ∧ Bel W w') := awake_any
  go_enter Try.func7, Try.ntmps7
  go_wp2_with fail
  go_at_call 10
  refine (new_any a0 len0 cap0 z0 w w0).mono ?_
  rintro e v1 ⟨g, rfl, hg, ho1, hb1⟩
  have HO1 := Lib.hid ho1
  have HB1 := Lib.hid hb1
  clear ho1 hb1 w0
  go_wp2_with fail
  go_at_call 11
  refine (scheme_any g _ (HO1.out.bel (by repeat (first | exact Bel.rf | with_reducible refine Bel.drwN ?_ _ | with_reducible refine Bel.drw ?_ | with_reducible refine Bel.al ?_ _)))).mono ?_
  rintro e v2 ⟨k, b, q, m, n, A, nc, cc, C, rfl, hs, hown, hCl, ho2, hc2⟩
  have HS := Lib.hid hs
  have HO2 := Lib.hid ho2
  have HGL : Hid (g < v1.heap.size) := HO1.out.lt
  have HB2 : Hid (Bel w v2) := Bel.ch HB1.out ((Ch.of_bel (by repeat (first | exact Bel.rf | with_reducible refine Bel.drwN ?_ _ | with_reducible refine Bel.drw ?_ | with_reducible refine Bel.al ?_ _))).tr hc2) hg
  have HFA : Hid (Fz v1 A nc) := own_fz hown (by first | exact Nat.le_refl _ | (simp; done))
  obtain ⟨A', c', e', hz⟩ := own_zx hown hCl
  cases e'
  have HZ2 := Lib.hid hz
  have n1 := hs.n1
  have n8 := hs.n8
  have HN1 := Lib.hid n1
  have ni : (n : Int) ≤ 8 := by omega
  have ni1 : 1 ≤ (n : Int) := by omega
  have HG := Lib.hid hg
  clear hs hown hCl ho2 hc2 hz hg
  unfold Sx
  have LI : Hid (∀ W, Ok W g → Calls Try.prog 12 #[.pointer (some ⟨g, 0, none⟩), .int .i64 (m : Int)] W (SomeList g m W)) := fun W h => list_any g m (by have := HS.out.m32; omega) W h
  have HQ2 : Hid (g < v2.heap.size) := HO2.out.lt
  have nq2 : v2.heap.size ≠ g := by have := HQ2.out; omega
  have HM2 : Hid (0 < m) := (by have := HS.out.m2; omega : _ < _)
  go_wp2_with fail
  go_at_call 12
  refine (LI.out _ (HO2.out.bel (by repeat (first | exact Bel.rf | with_reducible refine Bel.drwN ?_ _ | with_reducible refine Bel.drw ?_ | with_reducible refine Bel.al ?_ _)))).mono ?_
  rintro e v3 ⟨vx, X, rfl, hox, hlx, hsx, ho3, hc3⟩
  obtain ⟨hx, cx, rfl, mcx, hbx⟩ := row_form hox HM2.out
  have hxl := (hox.lt hx rfl).2
  have hbx' : v2.heap.size + 1 ≤ hx := by (try simp at hbx); omega
  have HX0 : Hid (v3.ownsRow (v2.heap.size + 1) 3 1 (.slice (some ⟨hx, 0, none⟩) m cx) m (zs (mq X 0))) := by
    show World.ownsRow _ _ _ _ _ _ _
    rw [mq_zero]
    exact own_lowd hox (by (try simp); try omega)
  have HC3 : Hid (Ch g (v2.alloc (.cells #[.int .i64 k, .int .i64 b, .int .i64 q, .int .i64 (m : Int), .int .i64 (n : Int), .slice A nc cc] 28)) v3) := by
    show Ch _ _ _
    exact Ch.tr (by repeat (first | exact Ch.rf | with_reducible refine Ch.drwN ?_ _ | with_reducible refine Ch.drw ?_ | with_reducible refine Ch.al ?_ _)) hc3
  have HX2 : Hid (Bk (v2.alloc (.cells #[.int .i64 k, .int .i64 b, .int .i64 q, .int .i64 (m : Int), .int .i64 (n : Int), .slice A nc cc] 28)) v2.heap.size 28 #[.int .i64 k, .int .i64 b, .int .i64 q, .int .i64 (m : Int), .int .i64 (n : Int), .slice A nc cc]) := Bk.nw _ _ _
  have HSX : Hid (Sam X ∧ X.length = m ∧ m ≤ cx) := ⟨hsx, hlx, mcx⟩
  have HHX : Hid (v2.heap.size + 1 ≤ hx ∧ hx < v3.heap.size) := ⟨hbx', hxl⟩
  have HW0 : Hid (Wq g v3.heap.size (v2.alloc (.cells #[.int .i64 k, .int .i64 b, .int .i64 q, .int .i64 (m : Int), .int .i64 (n : Int), .slice A nc cc] 28)) v3 (.slice none 0 0) (.slice none 0 0) 0 0 [] []) := ⟨World.ownsRow_nil _ _ _ _, World.ownsRow_nil _ _ _ _, fun b e => (by cases e), ho3, HC3.out, Nat.le_refl _, ho3.lt, HC3.out.sz⟩
  obtain ⟨X5, hX5⟩ : ∃ Y, X.map fth = Y := ⟨_, rfl⟩
  have HX5 : Hid (X5.length = m ∧ (∀ x ∈ X5, -200 ≤ x ∧ x ≤ 200) ∧ (∀ t, t < m → X5.getD t 0 = fth (X.getD t 0)) ∧ mq X m = X5) := by
    show _ ∧ _
    rw [← hX5]
    refine ⟨by simpa using hlx, fth_mem hsx, fun t ht => fth_at X t (by omega), ?_⟩
    rw [← hlx]; exact mq_all X
  have wa : IntKind.i64.wrap a1 = a1 := IntWalk.i64_in _ (by have := HA1.out; omega)
  have wa2 : IntKind.i64.wrap a2 = a2 := IntWalk.i64_in _ (by have := HA2.out; omega)
  obtain ⟨M, hM⟩ : ∃ M, a2.tmod 4 = M := ⟨_, rfl⟩
  have hM4 := tmod_four a2 (by have := HA2.out; omega)
  rw [hM] at hM4
  obtain ⟨Fc, hFc⟩ : ∃ y, 1 + M = y := ⟨_, rfl⟩
  have HF4 : Hid (1 ≤ Fc ∧ Fc ≤ 4) := ⟨by omega, by omega⟩
  have HFC := Lib.hid hFc
  have wF : IntKind.i64.wrap (1 + M) = 1 + M := IntWalk.i64_in _ (by omega)
  clear hox hlx hsx hc3 ho3 mcx hbx hbx' hxl hX5 hM4 LI hFc
  go_wp2_with fail
  rw [HFC.out]
  clear hM wF
  go_loopw [37, 11, 12] (fun s37 s11 s12 wr => ∃ (t : Nat) (u v : Value) (V : World), V = wr ∧ u = s11 ∧ v = s12 ∧ s37 = .int .i64 (t : Int) ∧ t ≤ m ∧ wr.ownsRow (v2.heap.size + 1) 3 1 (.slice (some ⟨hx, 0, none⟩) m cx) m (zs (mq X t)) ∧ Wq g v3.heap.size (v2.alloc (.cells #[.int .i64 k, .int .i64 b, .int .i64 q, .int .i64 (m : Int), .int .i64 (n : Int), .slice A nc cc] 28)) wr u v t t ((af 1 a1 X5).take t) ((af Fc a1 X5).take t)) (fun s37 _ _ _ => m - (intOf s37).toNat)
  case atStart => exact ⟨0, _, _, _, rfl, rfl, rfl, by go_num, by omega, own_bel HX0.out (by repeat (first | exact Bel.rf | with_reducible refine Bel.drwN ?_ _ | with_reducible refine Bel.drw ?_ | with_reducible refine Bel.al ?_ _)), by simpa using HW0.out.up (by repeat (first | exact Bel.rf | with_reducible refine Bel.drwN ?_ _ | with_reducible refine Bel.drw ?_ | with_reducible refine Bel.al ?_ _))⟩
  case round =>
    obtain ⟨t, u, v, wr, hwr, hu, hv, rfl, ht, hox, hwq⟩ := hrel
    subst hwr hu hv
    have HOX := Lib.hid hox
    have HWQ := Lib.hid hwq
    clear hox hwq
    rcases Nat.lt_or_ge t m with hlt | hge
    · have tt : (t : Int) < (m : Int) := by omega
      have t32 : (t : Int) ≤ 32 := by have := HS.out.m32; omega
      have t0 : (0 : Int) ≤ (t : Int) := by omega
      have e0 : wr.cell? ⟨hx, t, none⟩ = some (.int .i64 (X.getD t 0)) := by
        have := (own_zi HOX.out (by rw [mq_len]; exact HSX.out.2.1)).at t hlt
        rw [mq_at X t (by rw [HSX.out.2.1]; exact hlt)] at this
        exact this
      have ef := own_fr HOX.out t
      have hy5 := HX5.out.2.2.1 t hlt
      have hyb : -200 ≤ X5.getD t 0 ∧ X5.getD t 0 ≤ 200 := HX5.out.2.1 _ (by rw [List.getD_eq_getElem?_getD, List.getElem?_eq_getElem (by rw [HX5.out.1]; exact hlt)]; exact List.getElem_mem _)
      have HT1 : Hid ((af 1 a1 X5).take (t + 1) = (af 1 a1 X5).take t ++ [X5.getD t 0 * 1 + a1] ∧ (af Fc a1 X5).take (t + 1) = (af Fc a1 X5).take t ++ [X5.getD t 0 * Fc + a1]) := ⟨af_take _ _ _ _ (by rw [HX5.out.1]; exact hlt), af_take _ _ _ _ (by rw [HX5.out.1]; exact hlt)⟩
      have HO9 : Hid ((wr.setCell ⟨hx, t, none⟩ (.int .i64 (fth (X.getD t 0)))).ownsRow (v2.heap.size + 1) 3 1 (.slice (some ⟨hx, 0, none⟩) m cx) m (zs (mq X (t + 1)))) := by
        show World.ownsRow _ _ _ _ _ _ _
        rw [← mq_set X t (by rw [HSX.out.2.1]; exact hlt)]
        exact own_set HOX.out _
      obtain ⟨x, hx0⟩ : ∃ x, X.getD t 0 = x := ⟨_, rfl⟩
      have hnew := mq_new X t (by rw [HSX.out.2.1]; exact hlt)
      obtain ⟨y, hy⟩ : ∃ y, X5.getD t 0 = y := ⟨_, rfl⟩
      rw [hx0] at e0 hy5 HO9 hnew
      rw [hy] at hy5 hyb HT1
      rw [← hy5] at HO9 hnew
      rw [Int.mul_one] at HT1
      have hq5 : x.tdiv 5 = y := hy5.symm
      have hq6 : IntKind.i64.wrap (x.tdiv 5) = y := by rw [hq5]; exact IntWalk.i64_in _ (by omega)
      have wy : IntKind.i64.wrap y = y := IntWalk.i64_in _ (by omega)
      have HYW : Hid (IntKind.i64.wrap (y + a1) = y + a1 ∧ IntKind.i64.wrap (y * Fc) = y * Fc ∧ IntKind.i64.wrap (y * Fc + a1) = y * Fc + a1) := by
        have h1 := HA1.out
        have h2 : -800 ≤ y * Fc ∧ y * Fc ≤ 800 := by
          have := HF4.out
          rcases (by omega : Fc = 1 ∨ Fc = 2 ∨ Fc = 3 ∨ Fc = 4) with e | e | e | e <;> rw [e] <;> omega
        exact ⟨IntWalk.i64_in _ (by omega), IntWalk.i64_in _ (by omega), IntWalk.i64_in _ (by omega)⟩
      obtain ⟨y1, y2, y3⟩ := HYW.out
      have KS : Hid (∀ W : World, W.ownsRow (v2.heap.size + 1) 3 1 (.slice (some ⟨hx, 0, none⟩) m cx) m (zs (mq X (t + 1))) → W.cell? ⟨hx, t, none⟩ = some (.int .i64 y)) := fun W h => by
        have := (own_zi h (by rw [mq_len]; exact HSX.out.2.1)).at t hlt
        rw [hnew] at this
        exact this
      have HQ9 : Hid (Wq g v3.heap.size (v2.alloc (.cells #[.int .i64 k, .int .i64 b, .int .i64 q, .int .i64 (m : Int), .int .i64 (n : Int), .slice A nc cc] 28)) (wr.setCell ⟨hx, t, none⟩ (.int .i64 y)) u v t t ((af 1 a1 X5).take t) ((af Fc a1 X5).take t)) := HWQ.out.st (by (try simp); exact HHX.out.1) HHX.out.2 (by have := HHX.out.1; have := HQ2.out; omega) t _
      have HI1 : Hid (t + 1 ≤ 1000000) := (by have := HS.out.m32; omega : _ ≤ _)
      have HBU : Hid (∀ r, u.ownBlock = some r → v3.heap.size ≤ r ∧ r < wr.heap.size) := fun r e => HWQ.out.ou.lt r e
      have HBV : Hid (∀ r, v.ownBlock = some r → v3.heap.size ≤ r) := fun r e => (HWQ.out.ov.lt r e).1
      obtain ⟨S1, hS1⟩ : ∃ S, (af 1 a1 X5).take t = S := ⟨_, rfl⟩
      obtain ⟨S2, hS2⟩ : ∃ S, (af Fc a1 X5).take t = S := ⟨_, rfl⟩
      rw [hS1, hS2] at HT1 HQ9
      clear hy5 hyb hnew hx0 hy hq5 hS1 hS2
      go_upto_region 10 with fail
      clear e0 ef
      refine wp_region_noPanic ?_
      refine wp_region_held_drew (S := fun W => W.cell? ⟨hx, t, none⟩ = some (.int .i64 y)) (by kernel_rfl) ?_ (fun hH0 => ?_)
      · (try dsimp only); exact KS.out _ (own_bel HO9.out (by repeat (first | exact Bel.rf | with_reducible refine Bel.drwN ?_ _ | with_reducible refine Bel.drw ?_ | with_reducible refine Bel.al ?_ _)))
      refine wpAnyH_take (i := 0) (oi := ⟨some 46, .move (.tmp 11), 22, "law.go:215", #[], none⟩) (v := ?_) rfl (by kernel_rfl) (by kernel_rfl) (by kernel_rfl) (fun _ _ _ h => h) (Or.inl ⟨by kernel_rfl, ?_⟩) (by assumption) ?_
      rotate_left
      · (intro w hSw; (try dsimp only at hSw); go_simp; try with_reducible rfl)
      try simp only [Act.put, setIfInBounds_toArray, set_cons_zero, set_cons_succ]
      refine wpAnyH_take (i := 1) (oi := ⟨some 47, .move (.tmp 9), 22, "law.go:215", #[], none⟩) (v := ?_) rfl (by kernel_rfl) (by kernel_rfl) (by kernel_rfl) (fun _ _ _ h => h) (Or.inl ⟨by kernel_rfl, ?_⟩) (by assumption) ?_
      rotate_left
      · (intro w hSw; (try dsimp only at hSw); go_simp; try with_reducible rfl)
      try simp only [Act.put, setIfInBounds_toArray, set_cons_zero, set_cons_succ]
      refine wpAnyH_take (i := 2) (oi := ⟨some 48, .move (.tmp 13), 3, "law.go:215", #[], none⟩) (v := ?_) rfl (by kernel_rfl) (by kernel_rfl) (by kernel_rfl) (fun _ _ _ h => h) (Or.inl ⟨by kernel_rfl, ?_⟩) (by assumption) ?_
      rotate_left
      · (intro w hSw; (try dsimp only at hSw); go_simp; try with_reducible rfl)
      try simp only [Act.put, setIfInBounds_toArray, set_cons_zero, set_cons_succ]
      refine wpAnyH_take (i := 3) (oi := ⟨some 49, .indexAddr 22 (.tmp 47) (.tmp 48), 0, "law.go:215", #[⟨1, .data⟩, ⟨2, .data⟩], none⟩) (v := ?_) rfl (by kernel_rfl) (by kernel_rfl) (by kernel_rfl) (fun _ _ _ h => h) (Or.inl ⟨by kernel_rfl, ?_⟩) (by assumption) ?_
      rotate_left
      · (intro w hSw; (try dsimp only at hSw); go_simp; try with_reducible rfl)
      try simp only [Act.put, setIfInBounds_toArray, set_cons_zero, set_cons_succ]
      refine wpAnyH_take (i := 4) (oi := ⟨some 50, .load 3 (.tmp 49), 3, "law.go:215", #[⟨3, .data⟩], none⟩) (v := ?_) rfl (by kernel_rfl) (by kernel_rfl) (by kernel_rfl) (fun _ _ _ h => h) (Or.inl ⟨by kernel_rfl, ?_⟩) (by assumption) ?_
      rotate_left
      · (intro w hSw; (try dsimp only at hSw); go_simp; try with_reducible rfl)
      try simp only [Act.put, setIfInBounds_toArray, set_cons_zero, set_cons_succ]
      refine wpAnyH_take (i := 5) (oi := ⟨some 51, .move (.tmp 1), 59, "law.go:215", #[], none⟩) (v := ?_) rfl (by kernel_rfl) (by kernel_rfl) (by kernel_rfl) (fun _ _ _ h => h) (Or.inl ⟨by kernel_rfl, ?_⟩) (by assumption) ?_
      rotate_left
      · (intro w hSw; (try dsimp only at hSw); go_simp; try with_reducible rfl)
      try simp only [Act.put, setIfInBounds_toArray, set_cons_zero, set_cons_succ]
      refine wpAnyH_take (i := 6) (oi := ⟨some 52, .convert 59 3 (.tmp 51), 3, "law.go:215", #[⟨5, .data⟩], none⟩) (v := ?_) rfl (by kernel_rfl) (by kernel_rfl) (by kernel_rfl) (fun _ _ _ h => h) (Or.inl ⟨by kernel_rfl, ?_⟩) (by assumption) ?_
      rotate_left
      · (intro w hSw; (try dsimp only at hSw); go_simp; try with_reducible rfl)
      try simp only [Act.put, setIfInBounds_toArray, set_cons_zero, set_cons_succ]
      refine wpAnyH_take (i := 7) (oi := ⟨some 53, .binOp BinOp.add 3 (.tmp 50) (.tmp 52) 3, 3, "law.go:215", #[⟨4, .data⟩, ⟨6, .data⟩], none⟩) (v := ?_) rfl (by kernel_rfl) (by kernel_rfl) (by kernel_rfl) (fun _ _ _ h => h) (Or.inl ⟨by kernel_rfl, ?_⟩) (by assumption) ?_
      rotate_left
      · (intro w hSw; (try dsimp only at hSw); go_simp; try with_reducible rfl)
      try simp only [Act.put, setIfInBounds_toArray, set_cons_zero, set_cons_succ]
      refine wpAnyH_take (i := 10) (oi := ⟨some 56, .move (.tmp 12), 22, "law.go:215", #[], none⟩) (v := ?_) rfl (by kernel_rfl) (by kernel_rfl) (by kernel_rfl) (fun _ _ _ h => h) (Or.inl ⟨by kernel_rfl, ?_⟩) (by assumption) ?_
      rotate_left
      · (intro w hSw; (try dsimp only at hSw); go_simp; try with_reducible rfl)
      try simp only [Act.put, setIfInBounds_toArray, set_cons_zero, set_cons_succ]
      refine wpAnyH_take (i := 11) (oi := ⟨some 57, .move (.tmp 9), 22, "law.go:215", #[], none⟩) (v := ?_) rfl (by kernel_rfl) (by kernel_rfl) (by kernel_rfl) (fun _ _ _ h => h) (Or.inl ⟨by kernel_rfl, ?_⟩) (by assumption) ?_
      rotate_left
      · (intro w hSw; (try dsimp only at hSw); go_simp; try with_reducible rfl)
      try simp only [Act.put, setIfInBounds_toArray, set_cons_zero, set_cons_succ]
      refine wpAnyH_take (i := 12) (oi := ⟨some 58, .move (.tmp 13), 3, "law.go:215", #[], none⟩) (v := ?_) rfl (by kernel_rfl) (by kernel_rfl) (by kernel_rfl) (fun _ _ _ h => h) (Or.inl ⟨by kernel_rfl, ?_⟩) (by assumption) ?_
      rotate_left
      · (intro w hSw; (try dsimp only at hSw); go_simp; try with_reducible rfl)
      try simp only [Act.put, setIfInBounds_toArray, set_cons_zero, set_cons_succ]
      refine wpAnyH_take (i := 13) (oi := ⟨some 59, .indexAddr 22 (.tmp 57) (.tmp 58), 0, "law.go:215", #[⟨11, .data⟩, ⟨12, .data⟩], none⟩) (v := ?_) rfl (by kernel_rfl) (by kernel_rfl) (by kernel_rfl) (fun _ _ _ h => h) (Or.inl ⟨by kernel_rfl, ?_⟩) (by assumption) ?_
      rotate_left
      · (intro w hSw; (try dsimp only at hSw); go_simp; try with_reducible rfl)
      try simp only [Act.put, setIfInBounds_toArray, set_cons_zero, set_cons_succ]
      refine wpAnyH_take (i := 14) (oi := ⟨some 60, .load 3 (.tmp 59), 3, "law.go:215", #[⟨13, .data⟩], none⟩) (v := ?_) rfl (by kernel_rfl) (by kernel_rfl) (by kernel_rfl) (fun _ _ _ h => h) (Or.inl ⟨by kernel_rfl, ?_⟩) (by assumption) ?_
      rotate_left
      · (intro w hSw; (try dsimp only at hSw); go_simp; try with_reducible rfl)
      try simp only [Act.put, setIfInBounds_toArray, set_cons_zero, set_cons_succ]
      refine wpAnyH_take (i := 15) (oi := ⟨some 61, .move (.tmp 10), 3, "law.go:215", #[], none⟩) (v := ?_) rfl (by kernel_rfl) (by kernel_rfl) (by kernel_rfl) (fun _ _ _ h => h) (Or.inl ⟨by kernel_rfl, ?_⟩) (by assumption) ?_
      rotate_left
      · (intro w hSw; (try dsimp only at hSw); go_simp; try with_reducible rfl)
      try simp only [Act.put, setIfInBounds_toArray, set_cons_zero, set_cons_succ]
      refine wpAnyH_take (i := 16) (oi := ⟨some 62, .binOp BinOp.mul 3 (.tmp 60) (.tmp 61) 3, 3, "law.go:215", #[⟨14, .data⟩, ⟨15, .data⟩], none⟩) (v := ?_) rfl (by kernel_rfl) (by kernel_rfl) (by kernel_rfl) (fun _ _ _ h => h) (Or.inl ⟨by kernel_rfl, ?_⟩) (by assumption) ?_
      rotate_left
      · (intro w hSw; (try dsimp only at hSw); go_simp; try with_reducible rfl)
      try simp only [Act.put, setIfInBounds_toArray, set_cons_zero, set_cons_succ]
      refine wpAnyH_take (i := 17) (oi := ⟨some 63, .move (.tmp 1), 59, "law.go:215", #[], none⟩) (v := ?_) rfl (by kernel_rfl) (by kernel_rfl) (by kernel_rfl) (fun _ _ _ h => h) (Or.inl ⟨by kernel_rfl, ?_⟩) (by assumption) ?_
      rotate_left
      · (intro w hSw; (try dsimp only at hSw); go_simp; try with_reducible rfl)
      try simp only [Act.put, setIfInBounds_toArray, set_cons_zero, set_cons_succ]
      refine wpAnyH_take (i := 18) (oi := ⟨some 64, .convert 59 3 (.tmp 63), 3, "law.go:215", #[⟨17, .data⟩], none⟩) (v := ?_) rfl (by kernel_rfl) (by kernel_rfl) (by kernel_rfl) (fun _ _ _ h => h) (Or.inl ⟨by kernel_rfl, ?_⟩) (by assumption) ?_
      rotate_left
      · (intro w hSw; (try dsimp only at hSw); go_simp; try with_reducible rfl)
      try simp only [Act.put, setIfInBounds_toArray, set_cons_zero, set_cons_succ]
      refine wpAnyH_take (i := 19) (oi := ⟨some 65, .binOp BinOp.add 3 (.tmp 62) (.tmp 64) 3, 3, "law.go:215", #[⟨16, .data⟩, ⟨18, .data⟩], none⟩) (v := ?_) rfl (by kernel_rfl) (by kernel_rfl) (by kernel_rfl) (fun _ _ _ h => h) (Or.inl ⟨by kernel_rfl, ?_⟩) (by assumption) ?_
      rotate_left
      · (intro w hSw; (try dsimp only at hSw); go_simp; try with_reducible rfl)
      try simp only [Act.put, setIfInBounds_toArray, set_cons_zero, set_cons_succ]
      refine wpAnyH_ready (rs := [8, 20]) (by kernel_rfl) (by simp) ?_
      refine AllReadyH.cons (o := ⟨some 54, .buildSlice 22 1 #[(0, .tmp 53)], 22, "law.go:215", #[⟨7, .data⟩], none⟩) rfl (fun K hK => ?_) (AllReadyH.cons (o := ⟨some 66, .buildSlice 22 1 #[(0, .tmp 65)], 22, "law.go:215", #[⟨19, .data⟩], none⟩) rfl (fun K hK => ?_) (AllReadyH.nil))
      · go_simp
        try go_wp2_with fail
        refine hK.out _ _ ?_ (fun hH1 => ?_)
        · (try dsimp only); exact KS.out _ (own_bel HO9.out (by repeat (first | exact Bel.rf | with_reducible refine Bel.drwN ?_ _ | with_reducible refine Bel.drw ?_ | with_reducible refine Bel.al ?_ _)))
        clear hK K hH0
        try simp only [Act.put, setIfInBounds_toArray, set_cons_zero, set_cons_succ]
        refine wpAnyH_ready (rs := [9, 20]) (by kernel_rfl) (by simp) ?_
        refine AllReadyH.cons (o := ⟨some 55, .call { callee := Callee.builtin Builtin.append, args := #[.tmp 46, .tmp 54], argTypes := #[22, 22] }, 22, "law.go:215", #[⟨0, .data⟩, ⟨8, .data⟩], none⟩) rfl (fun K hK => ?_) (AllReadyH.cons (o := ⟨some 66, .buildSlice 22 1 #[(0, .tmp 65)], 22, "law.go:215", #[⟨19, .data⟩], none⟩) rfl (fun K hK => ?_) (AllReadyH.nil))
        · refine step_app _ rfl (.tmp 46) (.tmp 54) rfl v3.heap.size u t S1 rfl (own_bel HQ9.out.ou (by repeat (first | exact Bel.rf | with_reducible refine Bel.drwN ?_ _ | with_reducible refine Bel.drw ?_ | with_reducible refine Bel.al ?_ _))) ⟨wr.heap.size, 0, none⟩ 1 1 [y + a1] rfl (zi_bk (L := [y + a1]) ((by repeat (first | (refine Bk.nq _ _ _ ?_; simp; done) | with_reducible refine Bk.drwN ?_ _ | with_reducible refine Bk.drw ?_ | with_reducible refine Bk.al ?_ _)) : Bk _ wr.heap.size 3 (zs [y + a1]).toArray) 1 rfl) HI1.out (by have := HQ9.out.sz; simp; simp [World.setCell] at this; omega) ?_; intro v7 x7 h7 hg7 ha7; obtain ⟨A7, c7, hv7, _⟩ := own_any h7; subst hv7; have HQ7 : Hid (Wq g v3.heap.size (v2.alloc (.cells #[.int .i64 k, .int .i64 b, .int .i64 q, .int .i64 (m : Int), .int .i64 (n : Int), .slice A nc cc] 28)) x7 (.slice A7 (t + 1) c7) v (t + 1) t (S1 ++ [y + a1]) S2) := (HQ9.out.up (by repeat (first | exact Bel.rf | with_reducible refine Bel.drwN ?_ _ | with_reducible refine Bel.drw ?_ | with_reducible refine Bel.al ?_ _))).ax h7 hg7 ha7; have HX7 : Hid (x7.ownsRow (v2.heap.size + 1) 3 1 (.slice (some ⟨hx, 0, none⟩) m cx) m (zs (mq X (t + 1)))) := World.ownsRow.kept (own_bel HO9.out (by repeat (first | exact Bel.rf | with_reducible refine Bel.drwN ?_ _ | with_reducible refine Bel.drw ?_ | with_reducible refine Bel.al ?_ _))) hg7 (.inr (fun e => by have := (HBU.out hx e.symm).1; have := HHX.out.2; omega)); clear h7 hg7 ha7
          try go_wp2_with fail
          refine hK.out _ _ ?_ (fun hH2 => ?_)
          · (try dsimp only); exact KS.out _ (own_bel HX7.out (by repeat (first | exact Bel.rf | with_reducible refine Bel.drwN ?_ _ | with_reducible refine Bel.drw ?_ | with_reducible refine Bel.al ?_ _)))
          clear hK K hH1
          try simp only [Act.put, setIfInBounds_toArray, set_cons_zero, set_cons_succ]
          refine wpAnyH_ready (rs := [20]) (by kernel_rfl) (by simp) ?_
          refine AllReadyH.cons (o := ⟨some 66, .buildSlice 22 1 #[(0, .tmp 65)], 22, "law.go:215", #[⟨19, .data⟩], none⟩) rfl (fun K hK => ?_) (AllReadyH.nil)
          · go_simp
            try go_wp2_with fail
            refine hK.out _ _ ?_ (fun hH3 => ?_)
            · (try dsimp only); exact KS.out _ (own_bel HX7.out (by repeat (first | exact Bel.rf | with_reducible refine Bel.drwN ?_ _ | with_reducible refine Bel.drw ?_ | with_reducible refine Bel.al ?_ _)))
            clear hK K hH2
            try simp only [Act.put, setIfInBounds_toArray, set_cons_zero, set_cons_succ]
            refine wpAnyH_ready (rs := [21]) (by kernel_rfl) (by simp) ?_
            refine AllReadyH.cons (o := ⟨some 67, .call { callee := Callee.builtin Builtin.append, args := #[.tmp 56, .tmp 66], argTypes := #[22, 22] }, 22, "law.go:215", #[⟨10, .data⟩, ⟨20, .data⟩, ⟨9, .chain⟩], none⟩) rfl (fun K hK => ?_) (AllReadyH.nil)
            · refine step_app _ rfl (.tmp 56) (.tmp 66) rfl v3.heap.size v t S2 rfl (own_bel HQ7.out.ov (by repeat (first | exact Bel.rf | with_reducible refine Bel.drwN ?_ _ | with_reducible refine Bel.drw ?_ | with_reducible refine Bel.al ?_ _))) ⟨x7.heap.size, 0, none⟩ 1 1 [y * Fc + a1] rfl (zi_bk (L := [y * Fc + a1]) ((by repeat (first | (refine Bk.nq _ _ _ ?_; simp; done) | with_reducible refine Bk.drwN ?_ _ | with_reducible refine Bk.drw ?_ | with_reducible refine Bk.al ?_ _)) : Bk _ x7.heap.size 3 (zs [y * Fc + a1]).toArray) 1 rfl) HI1.out (by have := HQ7.out.sz; simp; omega) ?_; intro v12 x12 h12 hg12 ha12; obtain ⟨A12, c12, hv12, _⟩ := own_any h12; subst hv12; have HQ12 : Hid (Wq g v3.heap.size (v2.alloc (.cells #[.int .i64 k, .int .i64 b, .int .i64 q, .int .i64 (m : Int), .int .i64 (n : Int), .slice A nc cc] 28)) x12 (.slice A7 (t + 1) c7) (.slice A12 (t + 1) c12) (t + 1) (t + 1) (S1 ++ [y + a1]) (S2 ++ [y * Fc + a1])) := ((HQ7.out.up (by repeat (first | exact Bel.rf | with_reducible refine Bel.drwN ?_ _ | with_reducible refine Bel.drw ?_ | with_reducible refine Bel.al ?_ _))).sx.ax h12 hg12 ha12).sx; have HX12 : Hid (x12.ownsRow (v2.heap.size + 1) 3 1 (.slice (some ⟨hx, 0, none⟩) m cx) m (zs (mq X (t + 1)))) := World.ownsRow.kept (own_bel HX7.out (by repeat (first | exact Bel.rf | with_reducible refine Bel.drwN ?_ _ | with_reducible refine Bel.drw ?_ | with_reducible refine Bel.al ?_ _))) hg12 (.inr (fun e => by have := HBV.out hx e.symm; have := HHX.out.2; omega)); clear h12 hg12 ha12
              try go_wp2_with fail
              refine hK.out _ _ ?_ (fun hH4 => ?_)
              · (try dsimp only); exact KS.out _ (own_bel HX12.out (by repeat (first | exact Bel.rf | with_reducible refine Bel.drwN ?_ _ | with_reducible refine Bel.drw ?_ | with_reducible refine Bel.al ?_ _)))
              clear hK K hH3
              try simp only [Act.put, setIfInBounds_toArray, set_cons_zero, set_cons_succ]
              refine wpAnyH_take (i := 22) (oi := ⟨some 11, .assign (.tmp 55), 22, "law.go:215", #[⟨9, .data⟩, ⟨21, .chain⟩, ⟨0, .phase⟩, ⟨1, .phase⟩, ⟨2, .phase⟩, ⟨3, .phase⟩, ⟨4, .phase⟩, ⟨5, .phase⟩, ⟨6, .phase⟩, ⟨7, .phase⟩, ⟨8, .phase⟩, ⟨9, .phase⟩, ⟨10, .textOnly Departure.lateStores⟩, ⟨11, .textOnly Departure.lateStores⟩, ⟨12, .textOnly Departure.lateStores⟩, ⟨13, .textOnly Departure.lateStores⟩, ⟨14, .textOnly Departure.lateStores⟩, ⟨15, .textOnly Departure.lateStores⟩, ⟨16, .textOnly Departure.lateStores⟩, ⟨17, .textOnly Departure.lateStores⟩, ⟨18, .textOnly Departure.lateStores⟩, ⟨19, .textOnly Departure.lateStores⟩, ⟨20, .textOnly Departure.lateStores⟩, ⟨21, .textOnly Departure.lateStoresUnsure⟩], none⟩) (v := ?_) rfl (by kernel_rfl) (by kernel_rfl) (by kernel_rfl) (fun _ _ _ h => h) (Or.inl ⟨by kernel_rfl, ?_⟩) (by assumption) ?_
              rotate_left
              · (intro w hSw; (try dsimp only at hSw); go_simp; try with_reducible rfl)
              try simp only [Act.put, setIfInBounds_toArray, set_cons_zero, set_cons_succ]
              refine wpAnyH_take (i := 23) (oi := ⟨some 12, .assign (.tmp 67), 22, "law.go:215", #[⟨21, .data⟩, ⟨22, .chain⟩, ⟨0, .phase⟩, ⟨1, .phase⟩, ⟨2, .phase⟩, ⟨3, .phase⟩, ⟨4, .phase⟩, ⟨5, .phase⟩, ⟨6, .phase⟩, ⟨7, .phase⟩, ⟨8, .phase⟩, ⟨9, .phase⟩, ⟨10, .phase⟩, ⟨11, .phase⟩, ⟨12, .phase⟩, ⟨13, .phase⟩, ⟨14, .phase⟩, ⟨15, .phase⟩, ⟨16, .phase⟩, ⟨17, .phase⟩, ⟨18, .phase⟩, ⟨19, .phase⟩, ⟨20, .phase⟩, ⟨21, .phase⟩, ⟨22, .phase⟩], none⟩) (v := ?_) rfl (by kernel_rfl) (by kernel_rfl) (by kernel_rfl) (fun _ _ _ h => h) (Or.inl ⟨by kernel_rfl, ?_⟩) (by assumption) ?_
              rotate_left
              · (intro w hSw; (try dsimp only at hSw); go_simp; try with_reducible rfl)
              try simp only [Act.put, setIfInBounds_toArray, set_cons_zero, set_cons_succ]
              refine wpAnyH_done (by kernel_rfl) ?_ _
              refine NoPanic.normal ?_
              go_wp2_with fail
              go_roundw
              case rel => exact ⟨t + 1, _, _, _, rfl, rfl, rfl, by go_num, by omega, own_bel HX12.out (by repeat (first | exact Bel.rf | with_reducible refine Bel.drwN ?_ _ | with_reducible refine Bel.drw ?_ | with_reducible refine Bel.al ?_ _)), by rw [HT1.out.1, HT1.out.2]; exact HQ12.out.up (by repeat (first | exact Bel.rf | with_reducible refine Bel.drwN ?_ _ | with_reducible refine Bel.drw ?_ | with_reducible refine Bel.al ?_ _))⟩
              case measure => simp [intOf]; omega
        · go_simp
          try go_wp2_with fail
          refine hK.out _ _ ?_ (fun hH2 => ?_)
          · (try dsimp only); exact KS.out _ (own_bel HO9.out (by repeat (first | exact Bel.rf | with_reducible refine Bel.drwN ?_ _ | with_reducible refine Bel.drw ?_ | with_reducible refine Bel.al ?_ _)))
          clear hK K hH1
          try simp only [Act.put, setIfInBounds_toArray, set_cons_zero, set_cons_succ]
          refine wpAnyH_ready (rs := [9]) (by kernel_rfl) (by simp) ?_
          refine AllReadyH.cons (o := ⟨some 55, .call { callee := Callee.builtin Builtin.append, args := #[.tmp 46, .tmp 54], argTypes := #[22, 22] }, 22, "law.go:215", #[⟨0, .data⟩, ⟨8, .data⟩], none⟩) rfl (fun K hK => ?_) (AllReadyH.nil)
          · refine step_app _ rfl (.tmp 46) (.tmp 54) rfl v3.heap.size u t S1 rfl (own_bel HQ9.out.ou (by repeat (first | exact Bel.rf | with_reducible refine Bel.drwN ?_ _ | with_reducible refine Bel.drw ?_ | with_reducible refine Bel.al ?_ _))) ⟨wr.heap.size, 0, none⟩ 1 1 [y + a1] rfl (zi_bk (L := [y + a1]) ((by repeat (first | (refine Bk.nq _ _ _ ?_; simp; done) | with_reducible refine Bk.drwN ?_ _ | with_reducible refine Bk.drw ?_ | with_reducible refine Bk.al ?_ _)) : Bk _ wr.heap.size 3 (zs [y + a1]).toArray) 1 rfl) HI1.out (by have := HQ9.out.sz; simp; simp [World.setCell] at this; omega) ?_; intro v7 x7 h7 hg7 ha7; obtain ⟨A7, c7, hv7, _⟩ := own_any h7; subst hv7; have HQ7 : Hid (Wq g v3.heap.size (v2.alloc (.cells #[.int .i64 k, .int .i64 b, .int .i64 q, .int .i64 (m : Int), .int .i64 (n : Int), .slice A nc cc] 28)) x7 (.slice A7 (t + 1) c7) v (t + 1) t (S1 ++ [y + a1]) S2) := (HQ9.out.up (by repeat (first | exact Bel.rf | with_reducible refine Bel.drwN ?_ _ | with_reducible refine Bel.drw ?_ | with_reducible refine Bel.al ?_ _))).ax h7 hg7 ha7; have HX7 : Hid (x7.ownsRow (v2.heap.size + 1) 3 1 (.slice (some ⟨hx, 0, none⟩) m cx) m (zs (mq X (t + 1)))) := World.ownsRow.kept (own_bel HO9.out (by repeat (first | exact Bel.rf | with_reducible refine Bel.drwN ?_ _ | with_reducible refine Bel.drw ?_ | with_reducible refine Bel.al ?_ _))) hg7 (.inr (fun e => by have := (HBU.out hx e.symm).1; have := HHX.out.2; omega)); have HR7 : Hid (Bk x7 (wr.heap.size + 1) 3 (zs [y * Fc + a1]).toArray) := bk_grw ((by repeat (first | (refine Bk.nq _ _ _ ?_; simp; done) | with_reducible refine Bk.drwN ?_ _ | with_reducible refine Bk.drw ?_ | with_reducible refine Bk.al ?_ _)) : Bk _ (wr.heap.size + 1) 3 (zs [y * Fc + a1]).toArray) hg7 (fun e => by have := (HBU.out _ e).2; omega); clear h7 hg7 ha7
            try go_wp2_with fail
            refine hK.out _ _ ?_ (fun hH3 => ?_)
            · (try dsimp only); exact KS.out _ (own_bel HX7.out (by repeat (first | exact Bel.rf | with_reducible refine Bel.drwN ?_ _ | with_reducible refine Bel.drw ?_ | with_reducible refine Bel.al ?_ _)))
            clear hK K hH2
            try simp only [Act.put, setIfInBounds_toArray, set_cons_zero, set_cons_succ]
            refine wpAnyH_ready (rs := [21]) (by kernel_rfl) (by simp) ?_
            refine AllReadyH.cons (o := ⟨some 67, .call { callee := Callee.builtin Builtin.append, args := #[.tmp 56, .tmp 66], argTypes := #[22, 22] }, 22, "law.go:215", #[⟨10, .data⟩, ⟨20, .data⟩, ⟨9, .chain⟩], none⟩) rfl (fun K hK => ?_) (AllReadyH.nil)
            · refine step_app _ rfl (.tmp 56) (.tmp 66) rfl v3.heap.size v t S2 rfl (own_bel HQ7.out.ov (by repeat (first | exact Bel.rf | with_reducible refine Bel.drwN ?_ _ | with_reducible refine Bel.drw ?_ | with_reducible refine Bel.al ?_ _))) ⟨wr.heap.size + 1, 0, none⟩ 1 1 [y * Fc + a1] rfl (zi_bk (L := [y * Fc + a1]) (HR7.out.bel (by repeat (first | exact Bel.rf | with_reducible refine Bel.drwN ?_ _ | with_reducible refine Bel.drw ?_ | with_reducible refine Bel.al ?_ _))) 1 rfl) HI1.out (by have := HQ7.out.sz; simp; omega) ?_; intro v12 x12 h12 hg12 ha12; obtain ⟨A12, c12, hv12, _⟩ := own_any h12; subst hv12; have HQ12 : Hid (Wq g v3.heap.size (v2.alloc (.cells #[.int .i64 k, .int .i64 b, .int .i64 q, .int .i64 (m : Int), .int .i64 (n : Int), .slice A nc cc] 28)) x12 (.slice A7 (t + 1) c7) (.slice A12 (t + 1) c12) (t + 1) (t + 1) (S1 ++ [y + a1]) (S2 ++ [y * Fc + a1])) := ((HQ7.out.up (by repeat (first | exact Bel.rf | with_reducible refine Bel.drwN ?_ _ | with_reducible refine Bel.drw ?_ | with_reducible refine Bel.al ?_ _))).sx.ax h12 hg12 ha12).sx; have HX12 : Hid (x12.ownsRow (v2.heap.size + 1) 3 1 (.slice (some ⟨hx, 0, none⟩) m cx) m (zs (mq X (t + 1)))) := World.ownsRow.kept (own_bel HX7.out (by repeat (first | exact Bel.rf | with_reducible refine Bel.drwN ?_ _ | with_reducible refine Bel.drw ?_ | with_reducible refine Bel.al ?_ _))) hg12 (.inr (fun e => by have := HBV.out hx e.symm; have := HHX.out.2; omega)); clear h12 hg12 ha12
              try go_wp2_with fail
              refine hK.out _ _ ?_ (fun hH4 => ?_)
              · (try dsimp only); exact KS.out _ (own_bel HX12.out (by repeat (first | exact Bel.rf | with_reducible refine Bel.drwN ?_ _ | with_reducible refine Bel.drw ?_ | with_reducible refine Bel.al ?_ _)))
              clear hK K hH3
              try simp only [Act.put, setIfInBounds_toArray, set_cons_zero, set_cons_succ]
              refine wpAnyH_take (i := 22) (oi := ⟨some 11, .assign (.tmp 55), 22, "law.go:215", #[⟨9, .data⟩, ⟨21, .chain⟩, ⟨0, .phase⟩, ⟨1, .phase⟩, ⟨2, .phase⟩, ⟨3, .phase⟩, ⟨4, .phase⟩, ⟨5, .phase⟩, ⟨6, .phase⟩, ⟨7, .phase⟩, ⟨8, .phase⟩, ⟨9, .phase⟩, ⟨10, .textOnly Departure.lateStores⟩, ⟨11, .textOnly Departure.lateStores⟩, ⟨12, .textOnly Departure.lateStores⟩, ⟨13, .textOnly Departure.lateStores⟩, ⟨14, .textOnly Departure.lateStores⟩, ⟨15, .textOnly Departure.lateStores⟩, ⟨16, .textOnly Departure.lateStores⟩, ⟨17, .textOnly Departure.lateStores⟩, ⟨18, .textOnly Departure.lateStores⟩, ⟨19, .textOnly Departure.lateStores⟩, ⟨20, .textOnly Departure.lateStores⟩, ⟨21, .textOnly Departure.lateStoresUnsure⟩], none⟩) (v := ?_) rfl (by kernel_rfl) (by kernel_rfl) (by kernel_rfl) (fun _ _ _ h => h) (Or.inl ⟨by kernel_rfl, ?_⟩) (by assumption) ?_
              rotate_left
              · (intro w hSw; (try dsimp only at hSw); go_simp; try with_reducible rfl)
              try simp only [Act.put, setIfInBounds_toArray, set_cons_zero, set_cons_succ]
              refine wpAnyH_take (i := 23) (oi := ⟨some 12, .assign (.tmp 67), 22, "law.go:215", #[⟨21, .data⟩, ⟨22, .chain⟩, ⟨0, .phase⟩, ⟨1, .phase⟩, ⟨2, .phase⟩, ⟨3, .phase⟩, ⟨4, .phase⟩, ⟨5, .phase⟩, ⟨6, .phase⟩, ⟨7, .phase⟩, ⟨8, .phase⟩, ⟨9, .phase⟩, ⟨10, .phase⟩, ⟨11, .phase⟩, ⟨12, .phase⟩, ⟨13, .phase⟩, ⟨14, .phase⟩, ⟨15, .phase⟩, ⟨16, .phase⟩, ⟨17, .phase⟩, ⟨18, .phase⟩, ⟨19, .phase⟩, ⟨20, .phase⟩, ⟨21, .phase⟩, ⟨22, .phase⟩], none⟩) (v := ?_) rfl (by kernel_rfl) (by kernel_rfl) (by kernel_rfl) (fun _ _ _ h => h) (Or.inl ⟨by kernel_rfl, ?_⟩) (by assumption) ?_
              rotate_left
              · (intro w hSw; (try dsimp only at hSw); go_simp; try with_reducible rfl)
              try simp only [Act.put, setIfInBounds_toArray, set_cons_zero, set_cons_succ]
              refine wpAnyH_done (by kernel_rfl) ?_ _
              refine NoPanic.normal ?_
              go_wp2_with fail
              go_roundw
              case rel => exact ⟨t + 1, _, _, _, rfl, rfl, rfl, by go_num, by omega, own_bel HX12.out (by repeat (first | exact Bel.rf | with_reducible refine Bel.drwN ?_ _ | with_reducible refine Bel.drw ?_ | with_reducible refine Bel.al ?_ _)), by rw [HT1.out.1, HT1.out.2]; exact HQ12.out.up (by repeat (first | exact Bel.rf | with_reducible refine Bel.drwN ?_ _ | with_reducible refine Bel.drw ?_ | with_reducible refine Bel.al ?_ _))⟩
              case measure => simp [intOf]; omega
      · go_simp
        try go_wp2_with fail
        refine hK.out _ _ ?_ (fun hH1 => ?_)
        · (try dsimp only); exact KS.out _ (own_bel HO9.out (by repeat (first | exact Bel.rf | with_reducible refine Bel.drwN ?_ _ | with_reducible refine Bel.drw ?_ | with_reducible refine Bel.al ?_ _)))
        clear hK K hH0
        try simp only [Act.put, setIfInBounds_toArray, set_cons_zero, set_cons_succ]
        refine wpAnyH_ready (rs := [8]) (by kernel_rfl) (by simp) ?_
        refine AllReadyH.cons (o := ⟨some 54, .buildSlice 22 1 #[(0, .tmp 53)], 22, "law.go:215", #[⟨7, .data⟩], none⟩) rfl (fun K hK => ?_) (AllReadyH.nil)
        · go_simp
          try go_wp2_with fail
          refine hK.out _ _ ?_ (fun hH2 => ?_)
          · (try dsimp only); exact KS.out _ (own_bel HO9.out (by repeat (first | exact Bel.rf | with_reducible refine Bel.drwN ?_ _ | with_reducible refine Bel.drw ?_ | with_reducible refine Bel.al ?_ _)))
          clear hK K hH1
          try simp only [Act.put, setIfInBounds_toArray, set_cons_zero, set_cons_succ]
          refine wpAnyH_ready (rs := [9]) (by kernel_rfl) (by simp) ?_
          refine AllReadyH.cons (o := ⟨some 55, .call { callee := Callee.builtin Builtin.append, args := #[.tmp 46, .tmp 54], argTypes := #[22, 22] }, 22, "law.go:215", #[⟨0, .data⟩, ⟨8, .data⟩], none⟩) rfl (fun K hK => ?_) (AllReadyH.nil)
          · refine step_app _ rfl (.tmp 46) (.tmp 54) rfl v3.heap.size u t S1 rfl (own_bel HQ9.out.ou (by repeat (first | exact Bel.rf | with_reducible refine Bel.drwN ?_ _ | with_reducible refine Bel.drw ?_ | with_reducible refine Bel.al ?_ _))) ⟨wr.heap.size + 1, 0, none⟩ 1 1 [y + a1] rfl (zi_bk (L := [y + a1]) ((by repeat (first | (refine Bk.nq _ _ _ ?_; simp; done) | with_reducible refine Bk.drwN ?_ _ | with_reducible refine Bk.drw ?_ | with_reducible refine Bk.al ?_ _)) : Bk _ (wr.heap.size + 1) 3 (zs [y + a1]).toArray) 1 rfl) HI1.out (by have := HQ9.out.sz; simp; simp [World.setCell] at this; omega) ?_; intro v7 x7 h7 hg7 ha7; obtain ⟨A7, c7, hv7, _⟩ := own_any h7; subst hv7; have HQ7 : Hid (Wq g v3.heap.size (v2.alloc (.cells #[.int .i64 k, .int .i64 b, .int .i64 q, .int .i64 (m : Int), .int .i64 (n : Int), .slice A nc cc] 28)) x7 (.slice A7 (t + 1) c7) v (t + 1) t (S1 ++ [y + a1]) S2) := (HQ9.out.up (by repeat (first | exact Bel.rf | with_reducible refine Bel.drwN ?_ _ | with_reducible refine Bel.drw ?_ | with_reducible refine Bel.al ?_ _))).ax h7 hg7 ha7; have HX7 : Hid (x7.ownsRow (v2.heap.size + 1) 3 1 (.slice (some ⟨hx, 0, none⟩) m cx) m (zs (mq X (t + 1)))) := World.ownsRow.kept (own_bel HO9.out (by repeat (first | exact Bel.rf | with_reducible refine Bel.drwN ?_ _ | with_reducible refine Bel.drw ?_ | with_reducible refine Bel.al ?_ _))) hg7 (.inr (fun e => by have := (HBU.out hx e.symm).1; have := HHX.out.2; omega)); have HR7 : Hid (Bk x7 wr.heap.size 3 (zs [y * Fc + a1]).toArray) := bk_grw ((by repeat (first | (refine Bk.nq _ _ _ ?_; simp; done) | with_reducible refine Bk.drwN ?_ _ | with_reducible refine Bk.drw ?_ | with_reducible refine Bk.al ?_ _)) : Bk _ wr.heap.size 3 (zs [y * Fc + a1]).toArray) hg7 (fun e => by have := (HBU.out _ e).2; omega); clear h7 hg7 ha7
            try go_wp2_with fail
            refine hK.out _ _ ?_ (fun hH3 => ?_)
            · (try dsimp only); exact KS.out _ (own_bel HX7.out (by repeat (first | exact Bel.rf | with_reducible refine Bel.drwN ?_ _ | with_reducible refine Bel.drw ?_ | with_reducible refine Bel.al ?_ _)))
            clear hK K hH2
            try simp only [Act.put, setIfInBounds_toArray, set_cons_zero, set_cons_succ]
            refine wpAnyH_ready (rs := [21]) (by kernel_rfl) (by simp) ?_
            refine AllReadyH.cons (o := ⟨some 67, .call { callee := Callee.builtin Builtin.append, args := #[.tmp 56, .tmp 66], argTypes := #[22, 22] }, 22, "law.go:215", #[⟨10, .data⟩, ⟨20, .data⟩, ⟨9, .chain⟩], none⟩) rfl (fun K hK => ?_) (AllReadyH.nil)
            · refine step_app _ rfl (.tmp 56) (.tmp 66) rfl v3.heap.size v t S2 rfl (own_bel HQ7.out.ov (by repeat (first | exact Bel.rf | with_reducible refine Bel.drwN ?_ _ | with_reducible refine Bel.drw ?_ | with_reducible refine Bel.al ?_ _))) ⟨wr.heap.size, 0, none⟩ 1 1 [y * Fc + a1] rfl (zi_bk (L := [y * Fc + a1]) (HR7.out.bel (by repeat (first | exact Bel.rf | with_reducible refine Bel.drwN ?_ _ | with_reducible refine Bel.drw ?_ | with_reducible refine Bel.al ?_ _))) 1 rfl) HI1.out (by have := HQ7.out.sz; simp; omega) ?_; intro v12 x12 h12 hg12 ha12; obtain ⟨A12, c12, hv12, _⟩ := own_any h12; subst hv12; have HQ12 : Hid (Wq g v3.heap.size (v2.alloc (.cells #[.int .i64 k, .int .i64 b, .int .i64 q, .int .i64 (m : Int), .int .i64 (n : Int), .slice A nc cc] 28)) x12 (.slice A7 (t + 1) c7) (.slice A12 (t + 1) c12) (t + 1) (t + 1) (S1 ++ [y + a1]) (S2 ++ [y * Fc + a1])) := ((HQ7.out.up (by repeat (first | exact Bel.rf | with_reducible refine Bel.drwN ?_ _ | with_reducible refine Bel.drw ?_ | with_reducible refine Bel.al ?_ _))).sx.ax h12 hg12 ha12).sx; have HX12 : Hid (x12.ownsRow (v2.heap.size + 1) 3 1 (.slice (some ⟨hx, 0, none⟩) m cx) m (zs (mq X (t + 1)))) := World.ownsRow.kept (own_bel HX7.out (by repeat (first | exact Bel.rf | with_reducible refine Bel.drwN ?_ _ | with_reducible refine Bel.drw ?_ | with_reducible refine Bel.al ?_ _))) hg12 (.inr (fun e => by have := HBV.out hx e.symm; have := HHX.out.2; omega)); clear h12 hg12 ha12
              try go_wp2_with fail
              refine hK.out _ _ ?_ (fun hH4 => ?_)
              · (try dsimp only); exact KS.out _ (own_bel HX12.out (by repeat (first | exact Bel.rf | with_reducible refine Bel.drwN ?_ _ | with_reducible refine Bel.drw ?_ | with_reducible refine Bel.al ?_ _)))
              clear hK K hH3
              try simp only [Act.put, setIfInBounds_toArray, set_cons_zero, set_cons_succ]
              refine wpAnyH_take (i := 22) (oi := ⟨some 11, .assign (.tmp 55), 22, "law.go:215", #[⟨9, .data⟩, ⟨21, .chain⟩, ⟨0, .phase⟩, ⟨1, .phase⟩, ⟨2, .phase⟩, ⟨3, .phase⟩, ⟨4, .phase⟩, ⟨5, .phase⟩, ⟨6, .phase⟩, ⟨7, .phase⟩, ⟨8, .phase⟩, ⟨9, .phase⟩, ⟨10, .textOnly Departure.lateStores⟩, ⟨11, .textOnly Departure.lateStores⟩, ⟨12, .textOnly Departure.lateStores⟩, ⟨13, .textOnly Departure.lateStores⟩, ⟨14, .textOnly Departure.lateStores⟩, ⟨15, .textOnly Departure.lateStores⟩, ⟨16, .textOnly Departure.lateStores⟩, ⟨17, .textOnly Departure.lateStores⟩, ⟨18, .textOnly Departure.lateStores⟩, ⟨19, .textOnly Departure.lateStores⟩, ⟨20, .textOnly Departure.lateStores⟩, ⟨21, .textOnly Departure.lateStoresUnsure⟩], none⟩) (v := ?_) rfl (by kernel_rfl) (by kernel_rfl) (by kernel_rfl) (fun _ _ _ h => h) (Or.inl ⟨by kernel_rfl, ?_⟩) (by assumption) ?_
              rotate_left
              · (intro w hSw; (try dsimp only at hSw); go_simp; try with_reducible rfl)
              try simp only [Act.put, setIfInBounds_toArray, set_cons_zero, set_cons_succ]
              refine wpAnyH_take (i := 23) (oi := ⟨some 12, .assign (.tmp 67), 22, "law.go:215", #[⟨21, .data⟩, ⟨22, .chain⟩, ⟨0, .phase⟩, ⟨1, .phase⟩, ⟨2, .phase⟩, ⟨3, .phase⟩, ⟨4, .phase⟩, ⟨5, .phase⟩, ⟨6, .phase⟩, ⟨7, .phase⟩, ⟨8, .phase⟩, ⟨9, .phase⟩, ⟨10, .phase⟩, ⟨11, .phase⟩, ⟨12, .phase⟩, ⟨13, .phase⟩, ⟨14, .phase⟩, ⟨15, .phase⟩, ⟨16, .phase⟩, ⟨17, .phase⟩, ⟨18, .phase⟩, ⟨19, .phase⟩, ⟨20, .phase⟩, ⟨21, .phase⟩, ⟨22, .phase⟩], none⟩) (v := ?_) rfl (by kernel_rfl) (by kernel_rfl) (by kernel_rfl) (fun _ _ _ h => h) (Or.inl ⟨by kernel_rfl, ?_⟩) (by assumption) ?_
              rotate_left
              · (intro w hSw; (try dsimp only at hSw); go_simp; try with_reducible rfl)
              try simp only [Act.put, setIfInBounds_toArray, set_cons_zero, set_cons_succ]
              refine wpAnyH_done (by kernel_rfl) ?_ _
              refine NoPanic.normal ?_
              go_wp2_with fail
              go_roundw
              case rel => exact ⟨t + 1, _, _, _, rfl, rfl, rfl, by go_num, by omega, own_bel HX12.out (by repeat (first | exact Bel.rf | with_reducible refine Bel.drwN ?_ _ | with_reducible refine Bel.drw ?_ | with_reducible refine Bel.al ?_ _)), by rw [HT1.out.1, HT1.out.2]; exact HQ12.out.up (by repeat (first | exact Bel.rf | with_reducible refine Bel.drwN ?_ _ | with_reducible refine Bel.drw ?_ | with_reducible refine Bel.al ?_ _))⟩
              case measure => simp [intOf]; omega
    · obtain rfl : t = m := by omega
      have hxo := HOX.out
      rw [HX5.out.2.2.2] at hxo
      have HXZ : Hid (Zi wr (some ⟨hx, 0, none⟩) t X5) := own_zi hxo HX5.out.1
      have hou := HWQ.out.ou
      have hov := HWQ.out.ov
      rw [List.take_of_length_le (by rw [af_len, HX5.out.1]; exact Nat.le_refl _)] at hou hov
      obtain ⟨gu, cu, hu, mcu, _⟩ := row_form hou HM2.out
      obtain ⟨gv, cv, hv, mcv, _⟩ := row_form hov HM2.out
      subst hu hv
      have HUZ : Hid (Zi wr (some ⟨gu, 0, none⟩) t (af 1 a1 X5) ∧ Zi wr (some ⟨gv, 0, none⟩) t (af Fc a1 X5)) := ⟨own_zi hou (by rw [af_len]; exact HX5.out.1), own_zi hov (by rw [af_len]; exact HX5.out.1)⟩
      have HMC : Hid (t ≤ cx ∧ t ≤ cu ∧ t ≤ cv) := ⟨HSX.out.2.2, mcu, mcv⟩
      have HCW : Hid (Ch g (v2.alloc (.cells #[.int .i64 k, .int .i64 b, .int .i64 q, .int .i64 (t : Int), .int .i64 (n : Int), .slice A nc cc] 28)) wr) := HWQ.out.ch
      have HBW : Hid (Bel w wr) := Bel.ch HB2.out ((Ch.of_bel (Bel.rf.al _)).tr HCW.out) HG.out
      have hbk : Bk wr v2.heap.size 28 #[.int .i64 k, .int .i64 b, .int .i64 q, .int .i64 (t : Int), .int .i64 (n : Int), .slice A nc cc] := HCW.out.bk (Bk.nw _ _ _) nq2
      have HSM : Hid (Sam X5 ∧ Sam (af 1 a1 X5) ∧ Sam (af Fc a1 X5)) := ⟨fun x h => by have := HX5.out.2.1 x h; omega, af_sam HX5.out.2.1 (by decide) (by decide) (by have := HA1.out; omega) (by have := HA1.out; omega), af_sam HX5.out.2.1 HF4.out.1 HF4.out.2 (by have := HA1.out; omega) (by have := HA1.out; omega)⟩
      have HZA : Hid (Zi wr A nc C) := zi_fz HZ2.out ((Ch.of_bel (Bel.rf.al _)).tr HCW.out) HFA.out HGL.out
      have HSV : Hid (∀ kd, kd = 2 ∨ kd = 3 → Sv kd 0 0 t n C) := fun kd hk => ⟨.inl ⟨.inr hk, rfl, rfl⟩, HS.out.m2, HS.out.m32, HS.out.n1, HS.out.n8, HS.out.nm, HS.out.cv⟩
      have KC : Hid (∀ (kd : Int) (W : World), kd = 2 ∨ kd = 3 → Bel wr W → ∀ (h c : Nat) (Y : List Int), Sam Y → t ≤ c → Zi wr (some ⟨h, 0, none⟩) t Y → Calls Try.prog 14 #[.agg #[.int .i64 kd, .int .i64 0, .int .i64 0, .int .i64 (t : Int), .int .i64 (n : Int), .slice A nc cc], .slice (some ⟨h, 0, none⟩) t c] W (SomeCo n (cds kd Y t n) W)) := fun kd W hk hW h c Y hY hc hz => coords_ok kd 0 0 t n A nc cc C h c Y (HSV.out kd hk) hY hc W (HZA.out.bel hW) (hz.bel hW)
      have HE2 : Hid (cds 2 (af 1 a1 X5) t n = cds 2 X5 t n ∧ cds 3 (af 1 a1 X5) t n = cds 3 X5 t n ∧ cds 3 (af Fc a1 X5) t n = cds 3 X5 t n) := ⟨cds_two _ _ _ _, cds_three (by decide) HSM.out.1 HSM.out.2.1 HX5.out.1 HS.out.m2 HS.out.m32 HS.out.n1, cds_three HF4.out.1 HSM.out.1 HSM.out.2.2 HX5.out.1 HS.out.m2 HS.out.m32 HS.out.n1⟩
      have b0 := hbk.cell 0
      have b1 := hbk.cell 1
      have b2 := hbk.cell 2
      have b3 := hbk.cell 3
      have b4 := hbk.cell 4
      have b5 := hbk.cell 5
      simp only [getElem?_toArray, getElem?_cons_zero, getElem?_cons_succ] at b0 b1 b2 b3 b4 b5
      have KB : Hid (∀ W, Bel wr W → W.cell? ⟨v2.heap.size, 0, none⟩ = some (.int .i64 k) ∧ W.cell? ⟨v2.heap.size, 1, none⟩ = some (.int .i64 b) ∧ W.cell? ⟨v2.heap.size, 2, none⟩ = some (.int .i64 q) ∧ W.cell? ⟨v2.heap.size, 3, none⟩ = some (.int .i64 (t : Int)) ∧ W.cell? ⟨v2.heap.size, 4, none⟩ = some (.int .i64 (n : Int)) ∧ W.cell? ⟨v2.heap.size, 5, none⟩ = some (.slice A nc cc)) := fun W hW => ⟨hW.kp b0, hW.kp b1, hW.kp b2, hW.kp b3, hW.kp b4, hW.kp b5⟩
      have HRW : Hid (Bk (wr.alloc (.cells #[.int .i64 2, .int .i64 3] 3)) wr.heap.size 3 #[.int .i64 2, .int .i64 3]) := Bk.nw _ _ _
      have HRL : Hid (Bel wr (wr.alloc (.cells #[.int .i64 2, .int .i64 3] 3))) := Bel.rf.al _
      clear hxo hou hov mcu mcv hbk b0 b1 b2 b3 b4 b5
      go_wp2_with fail
      go_loopw [71] (fun s wi => ∃ (i : Nat) (V : World), V = wi ∧ i ≤ 2 ∧ s = .int .i64 (i : Int) ∧ Bel (wr.alloc (.cells #[.int .i64 2, .int .i64 3] 3)) wi) (fun s _ => 2 - (intOf s).toNat)
      case atStart => exact ⟨0, _, rfl, by omega, by go_num, (by repeat (first | exact Bel.rf | with_reducible refine Bel.drwN ?_ _ | with_reducible refine Bel.drw ?_ | with_reducible refine Bel.al ?_ _))⟩
      case round =>
        obtain ⟨i, wi, hwi, hi, rfl, hb⟩ := hrel
        subst hwi
        have HBI := Lib.hid hb
        have HWI : Hid (Bel wr wi) := HRL.out.tr hb
        have rk := HRW.out.bel hb
        have r0 := rk.cell 0
        have r1 := rk.cell 1
        simp only [getElem?_toArray, getElem?_cons_zero, getElem?_cons_succ] at r0 r1
        clear hb rk
        rcases Nat.lt_or_ge i 2 with ilt | ige
        · have ii : (i : Int) < 2 := by omega
          have i0 : (0 : Int) ≤ (i : Int) := by omega
          obtain ⟨kd, hkd, hek, HEK⟩ : ∃ kd : Int, (kd = 2 ∨ kd = 3) ∧ wi.cell? ⟨wr.heap.size, i, none⟩ = some (.int .i64 kd) ∧ cds kd (af 1 a1 X5) t n = cds kd X5 t n ∧ (kd = 3 → cds kd (af Fc a1 X5) t n = cds kd X5 t n) := by
            rcases (by omega : i = 0 ∨ i = 1) with rfl | rfl
            · exact ⟨2, .inl rfl, r0, HE2.out.1, fun h => absurd h (by decide)⟩
            · exact ⟨3, .inr rfl, r1, HE2.out.2.1, fun _ => HE2.out.2.2⟩
          have HKD := Lib.hid hkd
          have HEKH := Lib.hid HEK
          obtain ⟨q0, q1, q2, q3, q4, q5⟩ := KB.out wi HWI.out
          obtain ⟨La, hLa⟩ : ∃ L, cds kd X5 t n = L := ⟨_, rfl⟩
          have HLA := Lib.hid hLa
          have HLN : Hid (La.length = n) := by show _ = _; rw [← hLa]; exact cds_len _ _ _ _
          have HKBX : Hid (Bk (wi.alloc (.cells #[.int .i64 kd, .int .i64 0, .int .i64 0, .int .i64 (t : Int), .int .i64 (n : Int), .slice A nc cc] 28)) wi.heap.size 28 #[.int .i64 kd, .int .i64 0, .int .i64 0, .int .i64 (t : Int), .int .i64 (n : Int), .slice A nc cc]) := Bk.nw _ _ _
          have HKBL : Hid (Bel wi (wi.alloc (.cells #[.int .i64 kd, .int .i64 0, .int .i64 0, .int .i64 (t : Int), .int .i64 (n : Int), .slice A nc cc] 28))) := Bel.rf.al _
          clear HEK hLa r0 r1 hkd
          go_wp2_with fail
          go_at_call 14
          refine (KC.out kd _ HKD.out (HWI.out.tr (HKBL.out.tr (by repeat (first | exact Bel.rf | with_reducible refine Bel.drwN ?_ _ | with_reducible refine Bel.drw ?_ | with_reducible refine Bel.al ?_ _)))) hx cx X5 HSM.out.1 HMC.out.1 HXZ.out).mono ?_
          rintro e w1 ⟨h1, rfl, _, hk1, hb1⟩
          have hb1' := Bel.tr ((by repeat (first | exact Bel.rf | with_reducible refine Bel.drwN ?_ _ | with_reducible refine Bel.drw ?_ | with_reducible refine Bel.al ?_ _)) : Bel (wi.alloc (.cells #[.int .i64 kd, .int .i64 0, .int .i64 0, .int .i64 (t : Int), .int .i64 (n : Int), .slice A nc cc] 28)) _) hb1
          have HB1 : Hid (Bel wi w1) := HKBL.out.tr hb1'
          have HZ1 : Hid (Zi w1 (some ⟨h1, 0, none⟩) n La) := by show Zi _ _ _ _; rw [HLA.out] at hk1; exact zi_bk hk1 n HLN.out
          have HK1 := Lib.hid (HKBX.out.bel hb1')
          clear q0 q1 q2 q3 q4 q5 hk1 hb1 hb1'
          have q0 := HK1.out.cell 0
          have q1 := HK1.out.cell 1
          have q2 := HK1.out.cell 2
          have q3 := HK1.out.cell 3
          have q4 := HK1.out.cell 4
          have q5 := HK1.out.cell 5
          simp only [getElem?_toArray, getElem?_cons_zero, getElem?_cons_succ] at q0 q1 q2 q3 q4 q5
          go_wp2_with fail
          go_at_call 14
          refine (KC.out kd _ HKD.out (HWI.out.tr (HB1.out.tr (by repeat (first | exact Bel.rf | with_reducible refine Bel.drwN ?_ _ | with_reducible refine Bel.drw ?_ | with_reducible refine Bel.al ?_ _)))) gu cu _ HSM.out.2.1 HMC.out.2.1 HUZ.out.1).mono ?_
          rintro e w2' ⟨h2, rfl, _, hk2, hb2⟩
          have hb2' := Bel.tr ((by repeat (first | exact Bel.rf | with_reducible refine Bel.drwN ?_ _ | with_reducible refine Bel.drw ?_ | with_reducible refine Bel.al ?_ _)) : Bel w1 _) hb2
          have HB2' : Hid (Bel wi w2') := HB1.out.tr hb2'
          have HZ2' : Hid (Zi w2' (some ⟨h2, 0, none⟩) n La) := by show Zi _ _ _ _; rw [HEKH.out.1, HLA.out] at hk2; exact zi_bk hk2 n HLN.out
          have HZ12 := Lib.hid (HZ1.out.bel hb2')
          have HK2 := Lib.hid (HK1.out.bel hb2')
          clear q0 q1 q2 q3 q4 q5 hk2 hb2 hb2'
          have q0 := HK2.out.cell 0
          have q1 := HK2.out.cell 1
          have q2 := HK2.out.cell 2
          have q3 := HK2.out.cell 3
          have q4 := HK2.out.cell 4
          have q5 := HK2.out.cell 5
          simp only [getElem?_toArray, getElem?_cons_zero, getElem?_cons_succ] at q0 q1 q2 q3 q4 q5
          go_wp2_with fail
          go_at_call 14
          refine (KC.out kd _ HKD.out (HWI.out.tr (HB2'.out.tr (by repeat (first | exact Bel.rf | with_reducible refine Bel.drwN ?_ _ | with_reducible refine Bel.drw ?_ | with_reducible refine Bel.al ?_ _)))) gv cv _ HSM.out.2.2 HMC.out.2.2 HUZ.out.2).mono ?_
          rintro e w3 ⟨h3, rfl, _, hk3, hb3⟩
          have hb3' := Bel.tr ((by repeat (first | exact Bel.rf | with_reducible refine Bel.drwN ?_ _ | with_reducible refine Bel.drw ?_ | with_reducible refine Bel.al ?_ _)) : Bel w2' _) hb3
          have HB3' : Hid (Bel wi w3) := HB2'.out.tr hb3'
          have HZ3' : Hid (kd = 3 → Zi w3 (some ⟨h3, 0, none⟩) n La) := fun hk => by
            have := hk3
            rw [HEKH.out.2 hk, HLA.out] at this
            exact zi_bk this n HLN.out
          have HZ13 : Hid (Zi w3 (some ⟨h1, 0, none⟩) n La ∧ Zi w3 (some ⟨h2, 0, none⟩) n La) := ⟨HZ12.out.bel hb3', HZ2'.out.bel hb3'⟩
          have I1 : Hid (∀ W, Bel w3 W → Calls Try.prog 25 #[.slice (some ⟨h1, 0, none⟩) n n, .slice (some ⟨h2, 0, none⟩) n n] W fun e w' => e = .returned (.bool true) ∧ Bel W w') := fun W hW => ints_same _ _ n n n La (by have := HS.out.n8; omega) W (HZ13.out.1.bel hW) (HZ13.out.2.bel hW)
          have I2 : Hid (kd = 3 → ∀ W, Bel w3 W → Calls Try.prog 25 #[.slice (some ⟨h1, 0, none⟩) n n, .slice (some ⟨h3, 0, none⟩) n n] W fun e w' => e = .returned (.bool true) ∧ Bel W w') := fun hk W hW => ints_same _ _ n n n La (by have := HS.out.n8; omega) W (HZ13.out.1.bel hW) ((HZ3'.out hk).bel hW)
          clear q0 q1 q2 q3 q4 q5 hk3 hb3 hb3'
          have M1 : True := trivial
          rcases HKD.out with e' | e'
          · subst e'
            go_wp2_with fail
            go_at_call 25
            refine (I1.out _ (by repeat (first | exact Bel.rf | with_reducible refine Bel.drwN ?_ _ | with_reducible refine Bel.drw ?_ | with_reducible refine Bel.al ?_ _))).mono ?_
            rintro e w4 ⟨rfl, hb4⟩
            have HB4 : Hid (Bel wi w4) := HB3'.out.tr (Bel.tr (by repeat (first | exact Bel.rf | with_reducible refine Bel.drwN ?_ _ | with_reducible refine Bel.drw ?_ | with_reducible refine Bel.al ?_ _)) hb4)
            clear hb4
            go_wp2
            go_roundw
            case rel => exact ⟨i + 1, _, rfl, by omega, by go_num, HBI.out.tr (by repeat (first | exact HB4.out | with_reducible refine Bel.drwN ?_ _ | with_reducible refine Bel.drw ?_ | with_reducible refine Bel.al ?_ _))⟩
            case measure => simp [intOf]; omega
          · subst e'
            go_wp2_with fail
            go_at_call 25
            refine (I1.out _ (by repeat (first | exact Bel.rf | with_reducible refine Bel.drwN ?_ _ | with_reducible refine Bel.drw ?_ | with_reducible refine Bel.al ?_ _))).mono ?_
            rintro e w4 ⟨rfl, hb4⟩
            have HB34 : Hid (Bel w3 w4) := Bel.tr (by repeat (first | exact Bel.rf | with_reducible refine Bel.drwN ?_ _ | with_reducible refine Bel.drw ?_ | with_reducible refine Bel.al ?_ _)) hb4
            clear hb4
            go_wp2_with fail
            go_at_call 25
            refine (I2.out (by first | trivial | rfl) _ (HB34.out.tr (by repeat (first | exact Bel.rf | with_reducible refine Bel.drwN ?_ _ | with_reducible refine Bel.drw ?_ | with_reducible refine Bel.al ?_ _)))).mono ?_
            rintro e w5 ⟨rfl, hb5⟩
            have HB4 : Hid (Bel wi w5) := HB3'.out.tr (HB34.out.tr (Bel.tr (by repeat (first | exact Bel.rf | with_reducible refine Bel.drwN ?_ _ | with_reducible refine Bel.drw ?_ | with_reducible refine Bel.al ?_ _)) hb5))
            clear hb5
            go_wp2
            go_roundw
            case rel => exact ⟨i + 1, _, rfl, by omega, by go_num, HBI.out.tr (by repeat (first | exact HB4.out | with_reducible refine Bel.drwN ?_ _ | with_reducible refine Bel.drw ?_ | with_reducible refine Bel.al ?_ _))⟩
            case measure => simp [intOf]; omega
        · obtain rfl : i = 2 := by omega
          go_wp2_with (go_at_call 19; refine (AW.out _).mono ?_; rintro e v9 ⟨rfl, h9⟩; have HB9 : Hid (Bel wi v9) := Bel.tr (by repeat (first | exact Bel.rf | with_reducible refine Bel.drwN ?_ _ | with_reducible refine Bel.drw ?_ | with_reducible refine Bel.al ?_ _)) h9; clear h9)
          go_ret
          exact ⟨rfl, (HBW.out.tr (HWI.out.tr HB9.out)).bl⟩

set_option maxRecDepth 100000 in
theorem lifted (os : Os) (started : os.Started) (H : Type) (enc : TypeId × Value → H) :
    ReturnsInHanded {} Try.checked os 7 .any (Rows.wordShiftsSpec.pre6 enc Try.prog Try.f7 Rows.wordShiftsRow.domain false) (Rows.wordShiftsSpec.post enc Try.prog Try.f7 false true false false) := by
  refine returnsInHanded_of_change (C := Try.checked) own started (by kernel_rfl) Try.func7
    (ChangeSpec.witness6 (enc := enc) (C := Try.checked) false ⟨#[], #[.slice none 0 0, .int .i8 0, .int .u8 0], []⟩ 8 (by kernel_rfl) (by kernel_rfl) (by kernel_rfl) (by kernel_rfl)) ?_
  intro W base args ds gs before hval0 hW hcnd _
  have hval : ∀ (j : Nat) t v, Try.f7.params[j]? = some t → args[j]? = some v → Value.okWide Try.prog W .any base t v := hval0
  have hW' := hW
  obtain ⟨p, q, hA0, hV, rfl, hfz, hnd⟩ := hW
  have hA : DataW.TrodAll enc Try.prog W 0 (fun _ => true) true Try.f7.params.toList args.toList ds p := hA0
  rw [Try.params7] at hA hval
  obtain ⟨v0, vs0, d0, ds0, p0, q0, hargs, rfl, rfl, h0, r0⟩ := trodAll_cons hA
  obtain ⟨v1, vs1, d1, ds1, p1, q1, rfl, rfl, rfl, h1, r1⟩ := trodAll_cons r0
  obtain ⟨v2, vs2, d2, ds2, p2, q2, rfl, rfl, rfl, h2, r2⟩ := trodAll_cons r1
  obtain ⟨rfl, rfl, rfl⟩ := trodAll_nil r2
  obtain rfl : args = #[v0, v1, v2] := by cases args; simp_all
  obtain ⟨rfl, rfl⟩ := trodVars_none hV
  obtain ⟨a0, len0, cap0, rfl⟩ := okWide_slice Try.underlying22 (hval 0 22 v0 rfl rfl)
  have k0 := h0
  have lt0 : ∀ x ∈ p0, x.block < W.heap.size := by obtain ⟨m, hm⟩ := k0; exact DataW.trod_lt m _ _ _ hm
  obtain ⟨z0, w0⟩ : ∃ zs, IsRow .i64 W a0 len0 cap0 zs := by
    obtain ⟨fuel, hf⟩ := h0
    rcases open_ints Try.underlying22 Try.underlying3 (by kernel_rfl) hf with ⟨hcs, _⟩ | ⟨x, l, c, zs, hcs, _, hl, hm, hz, _, hcell, hwz⟩
    · simp [Value.cells] at hcs
      obtain ⟨rfl, rfl, rfl⟩ := hcs
      exact ⟨[], .inl ⟨rfl, rfl, rfl, rfl⟩⟩
    · simp [Value.cells] at hcs
      obtain ⟨rfl, rfl, rfl⟩ := hcs
      exact ⟨zs, .inr ⟨_, rfl, hl, hm, by simpa using hz, hcell, hwz⟩⟩
  obtain ⟨a1, rfl, rfl, rfl, w1⟩ := open_int Try.underlying59 (hval 1 59 v1 rfl rfl) h1
  obtain ⟨a2, rfl, rfl, rfl, w2⟩ := open_int Try.underlying5 (hval 2 5 v2 rfl rfl) h2
  clear hA0 hval0
  refine (walk a0 len0 cap0 z0 a1 a2 W w0 w1 w2).mono fun e W' ⟨he, bel⟩ => ?_
  subst he
  exact ⟨_, rfl, _, _, _, [], _, [], hW', trodAll_mk1 (shut_bool Try.underlying4 _), (trodAll_cons_mk (Below.trod laidOut (by kernel_rfl) (of_decide_eq_true (by kernel_rfl)) k0 bel lt0) (trodAll_cons_mk (shut_int Try.underlying59 w1) (trodAll_cons_mk (shut_int Try.underlying5 w2) trodAll_mk0))), rfl, bel.frame _, fun h => by cases h⟩

theorem over : Rows.wordShiftsRow.holds Try.pinned (OpenSpec.ofChange Rows.wordShiftsSpec) :=
  OpenClaim.holds_of_wide 7 Try.f7 rfl rfl rfl rfl rfl rfl rfl ⟨rfl, rfl, rfl, rfl, rfl⟩ rfl rfl rfl rfl rfl (by kernel_rfl) Try.func7 (by kernel_rfl)
    (of_decide_eq_true (by kernel_rfl)) (by unfold Func.isWrapper; first | (rw [if_pos (by decide +kernel)]; kernel_rfl) | (rw [if_neg (by decide +kernel)]; exact ⟨rfl, rfl⟩))
    (fun os started H enc _ => lifted os started H enc)

theorem proved : Rows.WordShiftsSaid := over
end Go.Proofs.Ytgdhgeongdenpaa.wordShifts
