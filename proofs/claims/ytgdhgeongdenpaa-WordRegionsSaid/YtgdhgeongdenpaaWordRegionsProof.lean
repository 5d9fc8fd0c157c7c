/- That the law WordRegions returns true for every input that can be read, and leaves its arguments as they were; no further condition. -/
import Derived.Test.YtgdhgeongdenpaaRows
import Derived.WalkKit
import Derived.ProofKit
import Derived.OpenShut
import Derived.Test.YtgdhgeongdenpaaWords
import Derived.Test.YtgdhgeongdenpaaSrcNew0
import Derived.Test.YtgdhgeongdenpaaWd9
import Derived.Test.YtgdhgeongdenpaaWd16
import Derived.Test.YtgdhgeongdenpaaWdT
import Derived.ShutString
import Derived.ChangeOld
import Derived.Below
namespace Go.Proofs.Ytgdhgeongdenpaa.wordRegions
open Go.ChangeShapes Go.WideShapes Go.ChangeAt Go.RowKit Wo
open Go.ChangeMaps (open_string shut_string)
set_option linter.unusedVariables false

theorem own : ownKnob Try.prog.godebug = none := by kernel_rfl
theorem laidOut : laidOutB Try.prog = true := by kernel_rfl

/-- WHAT THE WALK IS TOLD OF A SLICE OF INTEGERS THAT CAME IN: it is nil; or it leads to a row of 'cap' cells, the numbers 'zs' (the first 'len' are its elements, the rest its spare room), each fitting its kind. -/
def IsRow (k : IntKind) (w : World) (a : Option Addr) (len cap : Nat) (zs : List Int) : Prop :=
  (a = none ∧ len = 0 ∧ cap = 0 ∧ zs = []) ∨
  ∃ x, a = some x ∧ len ≤ cap ∧ cap ≤ maxLen ∧ zs.length = cap ∧ (∀ i, i < zs.length → w.cell? (x.add i) = some (.int k (zs.getD i 0))) ∧ ∀ n ∈ zs, (Lit.int k n).wf = true

open Go.Proofs.Ytgdhgeongdenpaa.Wd Go.Proofs.Ytgdhgeongdenpaa.Rt Go.Proofs.Ytgdhgeongdenpaa.Nr Go.Proofs.Ytgdhgeongdenpaa.Pc Go.Proofs.Ytgdhgeongdenpaa.Wi Go.Proofs.Ytgdhgeongdenpaa.Wo Go.Proofs.Ytgdhgeongdenpaa.Sr in
set_option maxHeartbeats 16000000 in
set_option maxRecDepth 100000 in
set_option linter.unusedSimpArgs false in
theorem walk (a0 : Option Addr) (len0 cap0 : Nat) (z0 : List Int) (w : World) (w0 : IsRow .i64 w a0 len0 cap0 z0) :
    Calls Try.prog 3 #[.slice a0 len0 cap0] w fun e w' => e = .returned (.bool true) ∧ Below w.heap.size w w' := by
  have AW : Hid (∀ W, Calls Try.prog 19 #[] W fun e w' => e = .returned (.bool true) ∧ Bel W w') := awake_any
  go_enter Try.func3, Try.ntmps3
  go_wp2_with fail
  go_at_call 10
  refine (new_any a0 len0 cap0 z0 w w0).mono ?_
  rintro e v1 ⟨g, rfl, hg, ho1, hb1⟩
  have HO1 := Lib.hid ho1
  have HB1 := Lib.hid hb1
  clear ho1 hb1 w0
  go_wp2_with fail
  go_at_call 11
  refine (scheme_any g _ (HO1.out.bel (by repeat (first | exact Bel.rf | (with_reducible refine Bel.drwN ?_ _) | (with_reducible refine Bel.drw ?_) | (with_reducible refine Bel.al ?_ _))))).mono ?_
  rintro e v2 ⟨k, b, q, m, n, A, nc, cc, C, rfl, hs, hown, hCl, ho2, hc2⟩
  have HS := Lib.hid hs
  have HO2 := Lib.hid ho2
  have HGL : Hid (g < v1.heap.size) := HO1.out.lt
  have HB2 : Hid (Bel w v2) := Bel.ch HB1.out ((Ch.of_bel (by repeat (first | exact Bel.rf | (with_reducible refine Bel.drwN ?_ _) | (with_reducible refine Bel.drw ?_) | (with_reducible refine Bel.al ?_ _)))).tr hc2) hg
  have HFA : Hid (Fz v1 A nc) := own_fz hown (by first | exact Nat.le_refl _ | (simp; done))
  obtain ⟨A', c', e', hz⟩ := own_zx hown hCl
  cases e'
  have HZ2 := Lib.hid hz
  have n1 := hs.n1
  have n8 := hs.n8
  have HN1 := Lib.hid n1
  have ni : (n : Int) ≤ 8 := by omega
  have ni1 : 1 ≤ (n : Int) := by omega
  have HG := Lib.hid hg
  clear hs hown hCl ho2 hc2 hz hg
  unfold Sx
  have LI : Hid (∀ W, Ok W g → Calls Try.prog 12 #[.pointer (some ⟨g, 0, none⟩), .int .i64 (m : Int)] W (SomeList g m W)) := fun W h => list_any g m (by have := HS.out.m32; omega) W h
  have HQ2 : Hid (g < v2.heap.size) := HO2.out.lt
  have nq2 : v2.heap.size ≠ g := by have := HQ2.out; omega
  have HM2 : Hid (0 < m) := (by have := HS.out.m2; omega : _ < _)
  have HN8 := Lib.hid n8
  go_wp2_with fail
  go_at_call 12
  refine (LI.out _ (HO2.out.bel (by repeat (first | exact Bel.rf | (with_reducible refine Bel.drwN ?_ _) | (with_reducible refine Bel.drw ?_) | (with_reducible refine Bel.al ?_ _))))).mono ?_
  rintro e v3 ⟨vx, X, rfl, hox, hlx, hsx, ho3, hc3⟩
  obtain ⟨hx, cx, rfl, mcx, hbx⟩ := row_form hox HM2.out
  have HC3 : Hid (Ch g v2 v3) := (Ch.of_bel (by repeat (first | exact Bel.rf | (with_reducible refine Bel.drwN ?_ _) | (with_reducible refine Bel.drw ?_) | (with_reducible refine Bel.al ?_ _)))).tr hc3
  have HX3 : Hid (Bk v3 v2.heap.size 28 #[.int .i64 k, .int .i64 b, .int .i64 q, .int .i64 (m : Int), .int .i64 (n : Int), .slice A nc cc]) := hc3.bk (by repeat (first | (refine Bk.nq _ _ _ ?_; simp; done) | (with_reducible refine Bk.drwN ?_ _) | (with_reducible refine Bk.drw ?_) | (with_reducible refine Bk.al ?_ _))) nq2
  have HZ3 : Hid (Zi v3 A nc C ∧ Zi v3 (some ⟨hx, 0, none⟩) m X) := ⟨zi_fz HZ2.out HC3.out HFA.out HGL.out, own_zi hox hlx⟩
  have HB3 : Hid (Bel w v3) := Bel.ch HB2.out HC3.out HG.out
  have HSX : Hid (Sam X ∧ X.length = m ∧ m ≤ cx) := ⟨hsx, hlx, mcx⟩
  have HO3 := Lib.hid ho3
  have c0 := HX3.out.cell 0
  have c1 := HX3.out.cell 1
  have c2 := HX3.out.cell 2
  have c3 := HX3.out.cell 3
  have c4 := HX3.out.cell 4
  have c5 := HX3.out.cell 5
  simp only [List.getElem?_toArray, List.getElem?_cons_zero, List.getElem?_cons_succ] at c0 c1 c2 c3 c4 c5
  clear hox hlx hsx ho3 hc3 mcx hbx
  go_wp2_with fail
  go_at_call 13
  refine (of_ok k b q m n A nc cc C hx cx X HS.out HSX.out.1 HSX.out.2.2 _ (HZ3.out.1.bel (by repeat (first | exact Bel.rf | (with_reducible refine Bel.drwN ?_ _) | (with_reducible refine Bel.drw ?_) | (with_reducible refine Bel.al ?_ _)))) (HZ3.out.2.bel (by repeat (first | exact Bel.rf | (with_reducible refine Bel.drwN ?_ _) | (with_reducible refine Bel.drw ?_) | (with_reducible refine Bel.al ?_ _))))).mono ?_
  rintro e v4 ⟨sF, bF, fc, fd, rfl, hzF, hzB, hb, fF, fB⟩
  have HB4 : Hid (Bel v3 v4) := Bel.tr (by repeat (first | exact Bel.rf | (with_reducible refine Bel.drwN ?_ _) | (with_reducible refine Bel.drw ?_) | (with_reducible refine Bel.al ?_ _))) hb
  have HZ4 : Hid (Zi v4 sF n (Go.Proofs.Ytgdhgeongdenpaa.Wd.sys k C X m n) ∧ Zi v4 bF n (List.replicate n 4)) := ⟨hzF, hzB⟩
  have HF4 : Hid (Fz v3 sF n ∧ Fz v3 bF n) := ⟨fun h0 ad e => Nat.le_trans (by (try simp)) (fF h0 ad e), fun h0 ad e => Nat.le_trans (by (try simp)) (fB h0 ad e)⟩
  have HU4 : Hid (Bk (v4.alloc (.cells #[.slice sF n fc, .slice bF n fd] 32)) v4.heap.size 32 #[.slice sF n fc, .slice bF n fd]) := Bk.nw _ _ _
  have HUB : Hid (Bel v4 (v4.alloc (.cells #[.slice sF n fc, .slice bF n fd] 32))) := Bel.rf.al _
  obtain ⟨F, hF⟩ : ∃ F, Go.Proofs.Ytgdhgeongdenpaa.Wd.sys k C X m n = F := ⟨_, rfl⟩
  have HVF : Hid (Wv n F (List.replicate n 4)) := by show Wv _ _ _; rw [← hF]; exact sys_wv HS.out.cv k X m n
  have HBG : Hid (∀ P T, Wv n P T → (Blg n P T F ↔ ∀ p, p < n → (((rgn n C P T).getD p (0, 0)).1 ≤ (cds k X m n).getD p 0 ∧ (cds k X m n).getD p 0 ≤ ((rgn n C P T).getD p (0, 0)).2))) := fun P T h => by
    rw [← hF]
    exact blg_rgn HS.out.cv h (fun p hp => cdl_bd HSX.out.1 HSX.out.2.1 HS.out.m2 HS.out.m32 HS.out.n1 HS.out.nm hp)
  rw [hF] at HZ4
  obtain ⟨L, hL⟩ : ∃ L, cds k X m n = L := ⟨_, rfl⟩
  have HLN : Hid (L.length = n) := by show _ = _; rw [← hL]; exact cds_len _ _ _ _
  have CO : Hid (∀ W, Bel v4 W → Calls Try.prog 14 #[.agg #[.int .i64 k, .int .i64 b, .int .i64 q, .int .i64 (m : Int), .int .i64 (n : Int), .slice A nc cc], .slice (some ⟨hx, 0, none⟩) m cx] W (SomeCo n L W)) := fun W hW => by
    rw [← hL]
    exact coords_ok k b q m n A nc cc C hx cx X HS.out HSX.out.1 HSX.out.2.2 W ((HZ3.out.1.bel HB4.out).bel hW) ((HZ3.out.2.bel HB4.out).bel hW)
  rw [hL] at HBG
  have q0 := fun o => (HB4.out.al o).kp c0
  have q1 := fun o => (HB4.out.al o).kp c1
  have q2 := fun o => (HB4.out.al o).kp c2
  have q3 := fun o => (HB4.out.al o).kp c3
  have q4 := fun o => (HB4.out.al o).kp c4
  have q5 := fun o => (HB4.out.al o).kp c5
  clear hb hzF hzB fF fB hF hL
  unfold Wx
  go_wp2_with fail
  go_at_call 14
  refine (CO.out _ (HUB.out.tr (by repeat (first | exact Bel.rf | (with_reducible refine Bel.drwN ?_ _) | (with_reducible refine Bel.drw ?_) | (with_reducible refine Bel.al ?_ _))))).mono ?_
  rintro e y5 ⟨ca, rfl, hca, hkc, hb⟩
  have hy5 : Bel (v4.alloc (.cells #[.slice sF n fc, .slice bF n fd] 32)) y5 := Bel.tr (by repeat (first | exact Bel.rf | (with_reducible refine Bel.drwN ?_ _) | (with_reducible refine Bel.drw ?_) | (with_reducible refine Bel.al ?_ _))) hb
  have HB5 : Hid (Bel v4 y5) := HUB.out.tr hy5
  have HUY := Lib.hid (HU4.out.bel hy5)
  obtain ⟨u, hu⟩ : ∃ u, v4.heap.size = u := ⟨_, rfl⟩
  have hug : g < u := by rw [← hu]; have := HB4.out.size; have := HO3.out.lt; omega
  have hcg : ca ≠ g := by
    have h1 : v4.heap.size ≤ ca := Nat.le_trans (by (try simp)) hca
    omega
  have HUG : Hid (g < u ∧ ca ≠ g) := ⟨hug, hcg⟩
  have HKC := Lib.hid hkc
  have HWY : Hid (Bel v3 y5) := HB4.out.tr HB5.out
  have HBY : Hid (Bel w y5) := HB3.out.tr HWY.out
  have HGY : Hid (g < y5.heap.size) := (by have := HWY.out.size; have := HO3.out.lt; omega : _ < _)
  rw [hu] at HUY
  have d4 := HWY.out.kp c4
  have KR : Hid (∀ W, Ch g y5 W → (fun W => W.cell? (⟨v2.heap.size, 0, none⟩ : Addr) = some (.int .i64 k) ∧ W.cell? (⟨v2.heap.size, 1, none⟩ : Addr) = some (.int .i64 b) ∧ W.cell? (⟨v2.heap.size, 2, none⟩ : Addr) = some (.int .i64 q) ∧ W.cell? (⟨v2.heap.size, 3, none⟩ : Addr) = some (.int .i64 (m : Int)) ∧ W.cell? (⟨v2.heap.size, 4, none⟩ : Addr) = some (.int .i64 (n : Int)) ∧ W.cell? (⟨v2.heap.size, 5, none⟩ : Addr) = some (.slice A nc cc) ∧ W.cell? (⟨u, 0, none⟩ : Addr) = some (.slice sF n fc) ∧ W.cell? (⟨u, 1, none⟩ : Addr) = some (.slice bF n fd)) W) := fun W hW => by
    have nu : u ≠ g := by have := HUG.out.1; omega
    have u0 := (hW.bk (HX3.out.bel HWY.out) (by have := HQ2.out; omega)).cell 0
    have u1 := (hW.bk (HX3.out.bel HWY.out) (by have := HQ2.out; omega)).cell 1
    have u2 := (hW.bk (HX3.out.bel HWY.out) (by have := HQ2.out; omega)).cell 2
    have u3 := (hW.bk (HX3.out.bel HWY.out) (by have := HQ2.out; omega)).cell 3
    have u4 := (hW.bk (HX3.out.bel HWY.out) (by have := HQ2.out; omega)).cell 4
    have u5 := (hW.bk (HX3.out.bel HWY.out) (by have := HQ2.out; omega)).cell 5
    have u6 := (hW.bk HUY.out nu).cell 0
    have u7 := (hW.bk HUY.out nu).cell 1
    simp only [List.getElem?_toArray, List.getElem?_cons_zero, List.getElem?_cons_succ] at u0 u1 u2 u3 u4 u5 u6 u7
    exact ⟨u0, u1, u2, u3, u4, u5, u6, u7⟩
  have nn := ne_self (n : Int)
  rw [hu]
  clear hb hy5 hca hkc q0 q1 q2 q3 q4 q5 c0 c1 c2 c3 c4 c5 hug hcg hu
  go_upto_region 8 with fail
  clear d4
  refine wp_region_noPanic ?_
  refine wp_region_held_drew (S := fun W => W.cell? (⟨v2.heap.size, 0, none⟩ : Addr) = some (.int .i64 k) ∧ W.cell? (⟨v2.heap.size, 1, none⟩ : Addr) = some (.int .i64 b) ∧ W.cell? (⟨v2.heap.size, 2, none⟩ : Addr) = some (.int .i64 q) ∧ W.cell? (⟨v2.heap.size, 3, none⟩ : Addr) = some (.int .i64 (m : Int)) ∧ W.cell? (⟨v2.heap.size, 4, none⟩ : Addr) = some (.int .i64 (n : Int)) ∧ W.cell? (⟨v2.heap.size, 5, none⟩ : Addr) = some (.slice A nc cc) ∧ W.cell? (⟨u, 0, none⟩ : Addr) = some (.slice sF n fc) ∧ W.cell? (⟨u, 1, none⟩ : Addr) = some (.slice bF n fd)) (by kernel_rfl) ?_ (fun hH0 => ?_)
  · (try dsimp only); exact KR.out _ (by repeat (first | exact HC6.out | exact HC3'.out | exact Ch.rf | (with_reducible refine Ch.drwN ?_ _) | (with_reducible refine Ch.drw ?_) | (with_reducible refine Ch.al ?_ _)))
  refine wpAnyH_take (i := 0) (oi := ⟨some 49, .move (.tmp 3), 23, "law.go:104", #[], none⟩) (v := ?_) rfl (by kernel_rfl) (by kernel_rfl) (by kernel_rfl) (fun _ _ _ h => h) (Or.inl ⟨by first | kernel_rfl | rfl, ?_⟩) (by assumption) ?_
  rotate_left
  · (intro w hSw; (try dsimp only at hSw); obtain ⟨d0, d1, d2, d3, d4, d5, d6, d7⟩ := hSw; go_simp; try with_reducible rfl)
  try simp only [Act.put, List.setIfInBounds_toArray, List.set_cons_zero, List.set_cons_succ]
  refine wpAnyH_take (i := 1) (oi := ⟨some 50, .load 28 (.tmp 4), 28, "law.go:104", #[], none⟩) (v := ?_) rfl (by kernel_rfl) (by kernel_rfl) (by kernel_rfl) (fun _ _ _ h => h) (Or.inl ⟨by first | kernel_rfl | rfl, ?_⟩) (by assumption) ?_
  rotate_left
  · (intro w hSw; (try dsimp only at hSw); obtain ⟨d0, d1, d2, d3, d4, d5, d6, d7⟩ := hSw; go_simp; try with_reducible rfl)
  try simp only [Act.put, List.setIfInBounds_toArray, List.set_cons_zero, List.set_cons_succ]
  refine wpAnyH_take (i := 3) (oi := ⟨some 52, .move (.tmp 3), 23, "law.go:104", #[], none⟩) (v := ?_) rfl (by kernel_rfl) (by kernel_rfl) (by kernel_rfl) (fun _ _ _ h => h) (Or.inl ⟨by first | kernel_rfl | rfl, ?_⟩) (by assumption) ?_
  rotate_left
  · (intro w hSw; (try dsimp only at hSw); obtain ⟨d0, d1, d2, d3, d4, d5, d6, d7⟩ := hSw; go_simp; try with_reducible rfl)
  try simp only [Act.put, List.setIfInBounds_toArray, List.set_cons_zero, List.set_cons_succ]
  refine wpAnyH_take (i := 4) (oi := ⟨some 53, .load 32 (.tmp 6), 32, "law.go:104", #[], none⟩) (v := ?_) rfl (by kernel_rfl) (by kernel_rfl) (by kernel_rfl) (fun _ _ _ h => h) (Or.inl ⟨by first | kernel_rfl | rfl, ?_⟩) (by assumption) ?_
  rotate_left
  · (intro w hSw; (try dsimp only at hSw); obtain ⟨d0, d1, d2, d3, d4, d5, d6, d7⟩ := hSw; go_simp; try with_reducible rfl)
  try simp only [Act.put, List.setIfInBounds_toArray, List.set_cons_zero, List.set_cons_succ]
  refine wpAnyH_take (i := 6) (oi := ⟨some 55, .load 32 (.tmp 6), 32, "law.go:104", #[], none⟩) (v := ?_) rfl (by kernel_rfl) (by kernel_rfl) (by kernel_rfl) (fun _ _ _ h => h) (Or.inl ⟨by first | kernel_rfl | rfl, ?_⟩) (by assumption) ?_
  rotate_left
  · (intro w hSw; (try dsimp only at hSw); obtain ⟨d0, d1, d2, d3, d4, d5, d6, d7⟩ := hSw; go_simp; try with_reducible rfl)
  try simp only [Act.put, List.setIfInBounds_toArray, List.set_cons_zero, List.set_cons_succ]
  refine wpAnyH_take (i := 9) (oi := ⟨some 58, .move (.const (.int IntKind.i64 0)), 3, "law.go:104", #[], none⟩) (v := ?_) rfl (by kernel_rfl) (by kernel_rfl) (by kernel_rfl) (fun _ _ _ h => h) (Or.inl ⟨by first | kernel_rfl | rfl, ?_⟩) (by assumption) ?_
  rotate_left
  · (intro w hSw; (try dsimp only at hSw); obtain ⟨d0, d1, d2, d3, d4, d5, d6, d7⟩ := hSw; go_simp; try with_reducible rfl)
  try simp only [Act.put, List.setIfInBounds_toArray, List.set_cons_zero, List.set_cons_succ]
  refine wpAnyH_ready (rs := [2]) (by kernel_rfl) (by simp) ?_
  refine AllReadyH.cons (o := ⟨some 51, .call { callee := Callee.value (.func 15), args := #[.tmp 49, .tmp 50], argTypes := #[23, 28] }, 32, "law.go:104", #[⟨0, .data⟩, ⟨1, .data⟩], none⟩) rfl (fun K hK => ?_) AllReadyH.nil
  go_simp
  go_at_call 15; refine (word_any g k b q m n HN8.out A nc cc _ ((HO3.out.bel HWY.out).bel (by repeat (first | exact Bel.rf | (with_reducible refine Bel.drwN ?_ _) | (with_reducible refine Bel.drw ?_) | (with_reducible refine Bel.al ?_ _))))).mono ?_; rintro e x3 ⟨sA, bA, sc, bc, S, B, rfl, hv, hS, hB, ho3, hc3, fS, fB⟩; have HC3' : Hid (Ch g y5 x3) := (Ch.of_bel (by repeat (first | exact Bel.rf | (with_reducible refine Bel.drwN ?_ _) | (with_reducible refine Bel.drw ?_) | (with_reducible refine Bel.al ?_ _)))).tr hc3; have HO3' := Lib.hid ho3; have HV3 : Hid (Wv n S B ∧ Zi x3 sA n S ∧ Zi x3 bA n B) := ⟨hv, hS, hB⟩; have HF3 : Hid (Fz y5 sA n ∧ Fz y5 bA n) := ⟨fun h0 ad e => Nat.le_trans (by (try simp)) (fS h0 ad e), fun h0 ad e => Nat.le_trans (by (try simp)) (fB h0 ad e)⟩; clear hv hS hB ho3 hc3 fS fB; unfold Wx
  try go_wp2_with fail
  refine hK.out _ _ ?_ (fun hH1 => ?_)
  · (try dsimp only); exact KR.out _ (by repeat (first | exact HC6.out | exact HC3'.out | exact Ch.rf | (with_reducible refine Ch.drwN ?_ _) | (with_reducible refine Ch.drw ?_) | (with_reducible refine Ch.al ?_ _)))
  clear hK K hH0
  try simp only [Act.put, List.setIfInBounds_toArray, List.set_cons_zero, List.set_cons_succ]
  refine wpAnyH_ready (rs := [5]) (by kernel_rfl) (by simp) ?_
  refine AllReadyH.cons (o := ⟨some 54, .call { callee := Callee.value (.func 16), args := #[.tmp 52, .tmp 53], argTypes := #[23, 32] }, 32, "law.go:104", #[⟨3, .data⟩, ⟨4, .data⟩, ⟨2, .chain⟩], none⟩) rfl (fun K hK => ?_) AllReadyH.nil
  go_simp
  go_at_call 16; refine (upper_any g n HN1.out HN8.out sF bF fc fd F (full_in HVF.out) _ (HO3'.out.bel (by repeat (first | exact Bel.rf | (with_reducible refine Bel.drwN ?_ _) | (with_reducible refine Bel.drw ?_) | (with_reducible refine Bel.al ?_ _)))) (zi_fz (HZ4.out.1.bel HB5.out) (HC3'.out.tr (Ch.of_bel (by repeat (first | exact Bel.rf | (with_reducible refine Bel.drwN ?_ _) | (with_reducible refine Bel.drw ?_) | (with_reducible refine Bel.al ?_ _))))) HF4.out.1 HO3.out.lt) (HF4.out.1.ne HN1.out HO3.out.lt)).mono ?_; rintro e x6 ⟨sU, bU, uc, vc, SU, BU, rfl, hvU, hus, hSU, hBU, ho6, hc6, fSU, fBU⟩; have HC6 : Hid (Ch g y5 x6) := HC3'.out.tr ((Ch.of_bel (by repeat (first | exact Bel.rf | (with_reducible refine Bel.drwN ?_ _) | (with_reducible refine Bel.drw ?_) | (with_reducible refine Bel.al ?_ _)))).tr hc6); have HC36 : Hid (Ch g x3 x6) := (Ch.of_bel (by repeat (first | exact Bel.rf | (with_reducible refine Bel.drwN ?_ _) | (with_reducible refine Bel.drw ?_) | (with_reducible refine Bel.al ?_ _)))).tr hc6; have HO6 := Lib.hid ho6; have HV6 : Hid (Wv n SU BU ∧ Zi x6 sU n SU ∧ Zi x6 bU n BU) := ⟨hvU, hSU, hBU⟩; have HF6 : Hid (Fz x3 sU n ∧ Fz x3 bU n) := ⟨fun h0 ad e => Nat.le_trans (by (try simp)) (fSU h0 ad e), fun h0 ad e => Nat.le_trans (by (try simp)) (fBU h0 ad e)⟩; clear hvU hus hSU hBU ho6 hc6 fSU fBU; unfold Wx
  try go_wp2_with fail
  refine hK.out _ _ ?_ (fun hH2 => ?_)
  · (try dsimp only); exact KR.out _ (by repeat (first | exact HC6.out | exact HC3'.out | exact Ch.rf | (with_reducible refine Ch.drwN ?_ _) | (with_reducible refine Ch.drw ?_) | (with_reducible refine Ch.al ?_ _)))
  clear hK K hH1
  try simp only [Act.put, List.setIfInBounds_toArray, List.set_cons_zero, List.set_cons_succ]
  refine wpAnyH_ready (rs := [7]) (by kernel_rfl) (by simp) ?_
  refine AllReadyH.cons (o := ⟨some 56, .buildSlice 40 3 #[(0, .tmp 51), (1, .tmp 54), (2, .tmp 55)], 40, "law.go:104", #[⟨2, .data⟩, ⟨5, .data⟩, ⟨6, .data⟩], none⟩) rfl (fun K hK => ?_) AllReadyH.nil
  go_simp
  skip
  try go_wp2_with fail
  refine hK.out _ _ ?_ (fun hH3 => ?_)
  · (try dsimp only); exact KR.out _ (by repeat (first | exact HC6.out | exact HC3'.out | exact Ch.rf | (with_reducible refine Ch.drwN ?_ _) | (with_reducible refine Ch.drw ?_) | (with_reducible refine Ch.al ?_ _)))
  clear hK K hH2
  try simp only [Act.put, List.setIfInBounds_toArray, List.set_cons_zero, List.set_cons_succ]
  refine wpAnyH_take (i := 8) (oi := ⟨some 57, .call { callee := Callee.builtin Builtin.len, args := #[.tmp 56], argTypes := #[40] }, 3, "law.go:104", #[⟨7, .data⟩], none⟩) (v := ?_) rfl (by kernel_rfl) (by kernel_rfl) (by kernel_rfl) (fun _ _ _ h => h) (Or.inl ⟨by first | kernel_rfl | rfl, ?_⟩) (by assumption) ?_
  rotate_left
  · (intro w hSw; (try dsimp only at hSw); obtain ⟨d0, d1, d2, d3, d4, d5, d6, d7⟩ := hSw; go_simp; try with_reducible rfl)
  try simp only [Act.put, List.setIfInBounds_toArray, List.set_cons_zero, List.set_cons_succ]
  refine wpAnyH_done (by kernel_rfl) ?_ _
  refine NoPanic.normal ?_
  have HXR : Hid (Ch g y5 (x6.alloc (.cells #[.slice sA n sc, .slice bA n bc, .slice sU n uc, .slice bU n vc, .slice sF n fc, .slice bF n fd] 32))) := HC6.out.al _
  have HXK : Hid (Bk (x6.alloc (.cells #[.slice sA n sc, .slice bA n bc, .slice sU n uc, .slice bU n vc, .slice sF n fc, .slice bF n fd] 32)) x6.heap.size 32 #[.slice sA n sc, .slice bA n bc, .slice sU n uc, .slice bU n vc, .slice sF n fc, .slice bF n fd]) := Bk.nw _ _ _
  have HW3 : Hid (∀ i, i < 3 → ∃ oA oB oc od OS OB, Wv n OS OB ∧ ∀ V, Ch g (x6.alloc (.cells #[.slice sA n sc, .slice bA n bc, .slice sU n uc, .slice bU n vc, .slice sF n fc, .slice bF n fd] 32)) V → V.cell? (⟨x6.heap.size, i * 2, none⟩ : Addr) = some (.slice oA n oc) ∧ V.cell? (⟨x6.heap.size, i * 2 + 1, none⟩ : Addr) = some (.slice oB n od) ∧ Zi V oA n OS ∧ Zi V oB n OB) := fun i hi => by
    have nx : x6.heap.size ≠ g := by have := HO6.out.lt; omega
    rcases (by omega : i = 0 ∨ i = 1 ∨ i = 2) with rfl | rfl | rfl
    · refine ⟨sA, bA, sc, bc, _, _, HV3.out.1, fun V hV => ?_⟩
      have a0 := (hV.bk HXK.out nx).cell 0
      have a1 := (hV.bk HXK.out nx).cell 1
      simp only [List.getElem?_toArray, List.getElem?_cons_zero, List.getElem?_cons_succ] at a0 a1
      exact ⟨a0, a1, zi_fz HV3.out.2.1 ((HC36.out.al _).tr hV) HF3.out.1 HGY.out, zi_fz HV3.out.2.2 ((HC36.out.al _).tr hV) HF3.out.2 HGY.out⟩
    · refine ⟨sU, bU, uc, vc, _, _, HV6.out.1, fun V hV => ?_⟩
      have a0 := (hV.bk HXK.out nx).cell 2
      have a1 := (hV.bk HXK.out nx).cell 3
      simp only [List.getElem?_toArray, List.getElem?_cons_zero, List.getElem?_cons_succ] at a0 a1
      exact ⟨a0, a1, zi_fz HV6.out.2.1 (((Ch.rf (g := g)).al _).tr hV) HF6.out.1 HO3'.out.lt, zi_fz HV6.out.2.2 (((Ch.rf (g := g)).al _).tr hV) HF6.out.2 HO3'.out.lt⟩
    · refine ⟨sF, bF, fc, fd, _, _, HVF.out, fun V hV => ?_⟩
      have a0 := (hV.bk HXK.out nx).cell 4
      have a1 := (hV.bk HXK.out nx).cell 5
      simp only [List.getElem?_toArray, List.getElem?_cons_zero, List.getElem?_cons_succ] at a0 a1
      exact ⟨a0, a1, zi_fz (HZ4.out.1.bel HB5.out) (HXR.out.tr hV) HF4.out.1 HO3.out.lt, zi_fz (HZ4.out.2.bel HB5.out) (HXR.out.tr hV) HF4.out.2 HO3.out.lt⟩
  have HQ : Hid (∀ V, Ch g (x6.alloc (.cells #[.slice sA n sc, .slice bA n bc, .slice sU n uc, .slice bU n vc, .slice sF n fc, .slice bF n fd] 32)) V → (fun W => W.cell? (⟨v2.heap.size, 0, none⟩ : Addr) = some (.int .i64 k) ∧ W.cell? (⟨v2.heap.size, 1, none⟩ : Addr) = some (.int .i64 b) ∧ W.cell? (⟨v2.heap.size, 2, none⟩ : Addr) = some (.int .i64 q) ∧ W.cell? (⟨v2.heap.size, 3, none⟩ : Addr) = some (.int .i64 (m : Int)) ∧ W.cell? (⟨v2.heap.size, 4, none⟩ : Addr) = some (.int .i64 (n : Int)) ∧ W.cell? (⟨v2.heap.size, 5, none⟩ : Addr) = some (.slice A nc cc) ∧ W.cell? (⟨u, 0, none⟩ : Addr) = some (.slice sF n fc) ∧ W.cell? (⟨u, 1, none⟩ : Addr) = some (.slice bF n fd)) V ∧ Zi V A nc C ∧ Zi V sF n F ∧ Zi V bF n (List.replicate n 4) ∧ Bel w V ∧ Bk V ca 3 (zs L).toArray) := fun V hV => by
    obtain ⟨d0, d1, d2, d3, d4, d5, d6, d7⟩ := KR.out V (HXR.out.tr hV)
    exact ⟨⟨d0, d1, d2, d3, d4, d5, d6, d7⟩, zi_fz (HZ3.out.1.bel HWY.out) (HXR.out.tr hV) HFA.out HGL.out, zi_fz (HZ4.out.1.bel HB5.out) (HXR.out.tr hV) HF4.out.1 HO3.out.lt, zi_fz (HZ4.out.2.bel HB5.out) (HXR.out.tr hV) HF4.out.2 HO3.out.lt, Bel.ch HBY (HXR.out.tr hV) HG.out, (HXR.out.tr hV).bk HKC.out HUG.out.2⟩
  have BE : Hid (∀ sA bA sc bc S B W, Wv n S B → Zi W A nc C → Zi W sF n F → Zi W bF n (List.replicate n 4) → Zi W sA n S → Zi W bA n B → ∀ bb, decide (Blg n S B F) = bb → Calls Try.prog 18 #[.agg #[.int .i64 k, .int .i64 b, .int .i64 q, .int .i64 (m : Int), .int .i64 (n : Int), .slice A nc cc], .agg #[.slice sA n sc, .slice bA n bc], .agg #[.slice sF n fc, .slice bF n fd]] W fun e w' => e = .returned (.bool bb) ∧ Bel W w') := fun sA bA sc bc S B W hv h1 h2 h3 hS hB bb hbb => by
    rw [← hbb]
    exact belongs_ok k b q m n A sA bA sF bF nc cc sc bc fc fd C S B F _ HS.out hv HVF.out (four_at n) W h1 hS hB h2 h3
  obtain ⟨h0, hh0⟩ : ∃ h, x6.heap.size = h := ⟨_, rfl⟩
  rw [hh0] at HW3
  go_wp2_with fail
  go_loopw [58] (fun s wr => ∃ (i : Nat) (V : World), V = wr ∧ i ≤ 3 ∧ s = .int .i64 (i : Int) ∧ Ch g (x6.alloc (.cells #[.slice sA n sc, .slice bA n bc, .slice sU n uc, .slice bU n vc, .slice sF n fc, .slice bF n fd] 32)) wr) (fun s _ => 3 - (intOf s).toNat)
  case atStart => exact ⟨0, _, rfl, by omega, rfl, (by repeat (first | exact Ch.rf | (with_reducible refine Ch.drwN ?_ _) | (with_reducible refine Ch.drw ?_) | (with_reducible refine Ch.al ?_ _)))⟩
  case round =>
    obtain ⟨i, wr, hwr, hi, rfl, hcr⟩ := hrel
    subst hwr
    have HCR := Lib.hid hcr
    clear hcr
    rcases Nat.lt_or_ge i 3 with hlt | hge
    · have ii : (i : Int) < 3 := by omega
      have i0 : (0 : Int) ≤ (i : Int) := by omega
      obtain ⟨pA, tB, pc, tb, P, T, hvP, hPV⟩ := HW3.out i hlt
      have HVP := Lib.hid hvP
      have HPV := Lib.hid hPV
      obtain ⟨x0, x1, _, _⟩ := hPV wr HCR.out
      obtain ⟨⟨d0, d1, d2, d3, d4, d5, d6, d7⟩, _⟩ := HQ.out wr HCR.out
      have q0 := fun o => (Bel.rf.al o).kp d0
      have q1 := fun o => (Bel.rf.al o).kp d1
      have q2 := fun o => (Bel.rf.al o).kp d2
      have q3 := fun o => (Bel.rf.al o).kp d3
      have q4 := fun o => (Bel.rf.al o).kp d4
      have q5 := fun o => (Bel.rf.al o).kp d5
      have HXB : Hid (Bk (wr.alloc (.cells #[.slice pA n pc, .slice tB n tb] 32)) wr.heap.size 32 #[.slice pA n pc, .slice tB n tb]) := Bk.nw _ _ _
      have HXL : Hid (Bel wr (wr.alloc (.cells #[.slice pA n pc, .slice tB n tb] 32))) := Bel.rf.al _
      obtain ⟨R, hR⟩ : ∃ R, rgn n C P T = R := ⟨_, rfl⟩
      have HRL : Hid (R.length = n) := by show _ = _; rw [← hR]; exact rgn_len _ _ _ _
      have HBL := HBG.out P T hvP
      rw [hR] at HBL
      have HBL := Lib.hid HBL
      have RG : Hid (∀ W, Ch g (x6.alloc (.cells #[.slice sA n sc, .slice bA n bc, .slice sU n uc, .slice bU n vc, .slice sF n fc, .slice bF n fd] 32)) W → Calls Try.prog 17 #[.agg #[.int .i64 k, .int .i64 b, .int .i64 q, .int .i64 (m : Int), .int .i64 (n : Int), .slice A nc cc], .agg #[.slice pA n pc, .slice tB n tb]] W (SomeIv n R W)) := fun W hW => by
        rw [← hR]
        exact region_ok k b q m n A pA tB nc cc pc tb C P T HS.out HVP.out W (HQ.out W hW).2.1 (HPV.out W hW).2.2.1 (HPV.out W hW).2.2.2
      clear hvP hPV d0 d1 d2 d3 d4 d5 d6 d7 hR
      go_wp2_with fail
      go_at_call 17
      refine (RG.out _ (HCR.out.tr (Ch.of_bel (by repeat (first | exact Bel.rf | (with_reducible refine Bel.drwN ?_ _) | (with_reducible refine Bel.drw ?_) | (with_reducible refine Bel.al ?_ _)))))).mono ?_
      rintro e v9 ⟨ra, rfl, _, hkr, hb⟩
      have hb9 : Bel (wr.alloc (.cells #[.slice pA n pc, .slice tB n tb] 32)) v9 := Bel.tr (by repeat (first | exact Bel.rf | (with_reducible refine Bel.drwN ?_ _) | (with_reducible refine Bel.drw ?_) | (with_reducible refine Bel.al ?_ _))) hb
      have HC9 : Hid (Ch g (x6.alloc (.cells #[.slice sA n sc, .slice bA n bc, .slice sU n uc, .slice bU n vc, .slice sF n fc, .slice bF n fd] 32)) v9) := HCR.out.tr (Ch.of_bel (HXL.out.tr hb9))
      have HX9 := Lib.hid (HXB.out.bel hb9)
      have HKR := Lib.hid hkr
      obtain ⟨⟨d0, d1, d2, d3, d4, d5, d6, d7⟩, _⟩ := HQ.out v9 HC9.out
      clear hb hb9 hkr x0 x1 q0 q1 q2 q3 q4 q5
      go_wp2_with fail
      go_loopw [79, 14] (fun s79 s14 wi => ∃ (j : Nat) (bb : Bool) (V : World), V = wi ∧ j ≤ n ∧ s79 = .int .i64 (j : Int) ∧ s14 = .bool bb ∧ Acc R L j bb ∧ Bel v9 wi) (fun s79 _ _ => n - (intOf s79).toNat)
      case atStart => exact ⟨0, true, _, rfl, by omega, by go_num, rfl, acc_zero R L, (by repeat (first | exact Bel.rf | (with_reducible refine Bel.drwN ?_ _) | (with_reducible refine Bel.drw ?_) | (with_reducible refine Bel.al ?_ _)))⟩
      case round =>
        obtain ⟨j, bb, wi, hwi, hj, rfl, rfl, hacc, hbi⟩ := hrel
        subst hwi
        have HBI := Lib.hid hbi
        have HAC := Lib.hid hacc
        clear hbi hacc d0 d1 d2 d3 d4 d5 d6 d7
        rcases Nat.lt_or_ge j n with jlt | jge
        · have jj : (j : Int) < (n : Int) := by omega
          have j0 : (0 : Int) ≤ (j : Int) := by omega
          have a0' := rs_at R j (by rw [HRL.out]; exact jlt)
          have e0 := (HKR.out.bel HBI.out).cell (j * 2)
          have e1 := (HKR.out.bel HBI.out).cell (j * 2 + 1)
          rw [List.getElem?_toArray] at e0 e1
          rw [a0'.1] at e0
          rw [a0'.2] at e1
          have e2 : wi.cell? (⟨ca, j, none⟩ : Addr) = some (.int .i64 (L.getD j 0)) := (zi_bk (HQ.out wi (HC9.out.tr (Ch.of_bel HBI.out))).2.2.2.2.2 n HLN.out).at j jlt
          have HNX := Lib.hid (acc_next R L j)
          obtain ⟨G, hG⟩ : ∃ P, R.getD j (0, 0) = P := ⟨_, rfl⟩
          obtain ⟨Y, hY⟩ : ∃ P, L.getD j 0 = P := ⟨_, rfl⟩
          rw [hG] at e0 e1 HNX
          rw [hY] at e2 HNX
          obtain ⟨G1, G2⟩ := G
          dsimp only at e0 e1
          clear a0' hG hY
          rcases bb with _ | _
          · go_wp2_with fail
            go_quiet (fail)
            go_wp2
            go_roundw
            case rel => exact ⟨j + 1, false, _, rfl, by omega, by go_num, rfl, HNX.out false false HAC.out (by simp), (by repeat (first | exact HBI.out | (with_reducible refine Bel.drwN ?_ _) | (with_reducible refine Bel.drw ?_) | (with_reducible refine Bel.al ?_ _)))⟩
            case measure => simp [intOf]; omega
          · rcases Int.lt_or_le Y G1 with ga | ga
            · have ga1 : ¬ G1 ≤ Y := by omega
              have ga1' : decide (G1 ≤ Y) = false := decide_eq_false ga1
              go_wp2_with fail
              go_quiet (fail)
              go_wp2
              go_roundw
              case rel => exact ⟨j + 1, false, _, rfl, by omega, by go_num, rfl, HNX.out true false HAC.out (by simp only [Bool.false_eq_true, false_iff, not_and]; intro _ h; exact absurd h (Int.not_le.2 ga)), (by repeat (first | exact HBI.out | (with_reducible refine Bel.drwN ?_ _) | (with_reducible refine Bel.drw ?_) | (with_reducible refine Bel.al ?_ _)))⟩
              case measure => simp [intOf]; omega
            · have ga1' : decide (G1 ≤ Y) = true := decide_eq_true ga
              have HGA := Lib.hid ga
              go_wp2_with fail
              go_quiet (fail)
              go_wp2
              go_roundw
              case rel => exact ⟨j + 1, decide (Y ≤ G2), _, rfl, by omega, by go_num, rfl, HNX.out true (decide (Y ≤ G2)) HAC.out (by simp only [decide_eq_true_eq, true_and]; exact ⟨fun h => ⟨HGA.out, h⟩, fun h => h.2⟩), (by repeat (first | exact HBI.out | (with_reducible refine Bel.drwN ?_ _) | (with_reducible refine Bel.drw ?_) | (with_reducible refine Bel.al ?_ _)))⟩
              case measure => simp [intOf]; omega
        · obtain rfl : j = n := by omega
          have HCI : Hid (Ch g _ wi) := HC9.out.tr (Ch.of_bel HBI.out)
          obtain ⟨⟨d0, d1, d2, d3, d4, d5, d6, d7⟩, _⟩ := HQ.out wi HCI.out
          have x0 := (HX9.out.bel HBI.out).cell 0
          have x1 := (HX9.out.bel HBI.out).cell 1
          simp only [List.getElem?_toArray, List.getElem?_cons_zero, List.getElem?_cons_succ] at x0 x1
          have HDB : Hid (decide (Blg j P T F) = bb) := by
            show _ = _
            rw [Bool.eq_iff_iff, decide_eq_true_eq, HBL.out]
            exact HAC.out.symm
          have nb : (bb != bb) = false := by simp
          go_wp2_with fail
          go_at_call 18
          refine (BE.out pA tB pc tb P T _ HVP.out ((HQ.out wi HCI.out).2.1.bel (by repeat (first | exact Bel.rf | (with_reducible refine Bel.drwN ?_ _) | (with_reducible refine Bel.drw ?_) | (with_reducible refine Bel.al ?_ _)))) ((HQ.out wi HCI.out).2.2.1.bel (by repeat (first | exact Bel.rf | (with_reducible refine Bel.drwN ?_ _) | (with_reducible refine Bel.drw ?_) | (with_reducible refine Bel.al ?_ _)))) ((HQ.out wi HCI.out).2.2.2.1.bel (by repeat (first | exact Bel.rf | (with_reducible refine Bel.drwN ?_ _) | (with_reducible refine Bel.drw ?_) | (with_reducible refine Bel.al ?_ _)))) ((HPV.out wi HCI.out).2.2.1.bel (by repeat (first | exact Bel.rf | (with_reducible refine Bel.drwN ?_ _) | (with_reducible refine Bel.drw ?_) | (with_reducible refine Bel.al ?_ _)))) ((HPV.out wi HCI.out).2.2.2.bel (by repeat (first | exact Bel.rf | (with_reducible refine Bel.drwN ?_ _) | (with_reducible refine Bel.drw ?_) | (with_reducible refine Bel.al ?_ _)))) bb HDB.out).mono ?_
          rintro e v10 ⟨rfl, hb⟩
          have HCE : Hid (Ch g _ v10) := HCI.out.tr ((Ch.of_bel (by repeat (first | exact Bel.rf | (with_reducible refine Bel.drwN ?_ _) | (with_reducible refine Bel.drw ?_) | (with_reducible refine Bel.al ?_ _)))).tr (Ch.of_bel hb))
          clear hb
          go_wp2
          go_roundw
          case rel => exact ⟨i + 1, _, rfl, by omega, by go_num, (by repeat (first | exact HCE.out | (with_reducible refine Ch.drwN ?_ _) | (with_reducible refine Ch.drw ?_) | (with_reducible refine Ch.al ?_ _)))⟩
          case measure => simp [intOf]; omega
    · obtain rfl : i = 3 := by omega
      obtain ⟨⟨d0, d1, d2, d3, d4, d5, d6, d7⟩, _⟩ := HQ.out wr HCR.out
      have HWE : Hid (Bel w wr) := (HQ.out wr HCR.out).2.2.2.2.1
      go_wp2_with (first
        | (go_at_call 18; refine (BE.out sF bF fc fd F (List.replicate n 4) _ HVF.out ((HQ.out wr HCR.out).2.1.bel (by repeat (first | exact Bel.rf | (with_reducible refine Bel.drwN ?_ _) | (with_reducible refine Bel.drw ?_) | (with_reducible refine Bel.al ?_ _)))) ((HQ.out wr HCR.out).2.2.1.bel (by repeat (first | exact Bel.rf | (with_reducible refine Bel.drwN ?_ _) | (with_reducible refine Bel.drw ?_) | (with_reducible refine Bel.al ?_ _)))) ((HQ.out wr HCR.out).2.2.2.1.bel (by repeat (first | exact Bel.rf | (with_reducible refine Bel.drwN ?_ _) | (with_reducible refine Bel.drw ?_) | (with_reducible refine Bel.al ?_ _)))) ((HQ.out wr HCR.out).2.2.1.bel (by repeat (first | exact Bel.rf | (with_reducible refine Bel.drwN ?_ _) | (with_reducible refine Bel.drw ?_) | (with_reducible refine Bel.al ?_ _)))) ((HQ.out wr HCR.out).2.2.2.1.bel (by repeat (first | exact Bel.rf | (with_reducible refine Bel.drwN ?_ _) | (with_reducible refine Bel.drw ?_) | (with_reducible refine Bel.al ?_ _)))) true (decide_eq_true (blg_full F))).mono ?_; rintro e v9 ⟨rfl, h9⟩; have HB9 : Hid (Bel wr v9) := Bel.tr (by repeat (first | exact Bel.rf | (with_reducible refine Bel.drwN ?_ _) | (with_reducible refine Bel.drw ?_) | (with_reducible refine Bel.al ?_ _))) h9; clear h9)
        | (go_at_call 19; refine (AW.out _).mono ?_; rintro e v10 ⟨rfl, h9⟩; have HB10 : Hid (Bel wr v10) := HB9.out.tr (Bel.tr (by repeat (first | exact Bel.rf | (with_reducible refine Bel.drwN ?_ _) | (with_reducible refine Bel.drw ?_) | (with_reducible refine Bel.al ?_ _))) h9); clear h9))
      go_ret
      exact ⟨rfl, (HWE.out.tr HB10.out).bl⟩

set_option maxRecDepth 100000 in
theorem lifted (os : Os) (started : os.Started) (H : Type) (enc : TypeId × Value → H) :
    ReturnsInHanded {} Try.checked os 3 .any (Rows.wordRegionsSpec.pre6 enc Try.prog Try.f3 Rows.wordRegionsRow.domain false) (Rows.wordRegionsSpec.post enc Try.prog Try.f3 false true false false) := by
  refine returnsInHanded_of_change (C := Try.checked) own started (by kernel_rfl) Try.func3
    (ChangeSpec.witness6 (enc := enc) (C := Try.checked) false ⟨#[], #[.slice none 0 0], []⟩ 8 (by kernel_rfl) (by kernel_rfl) (by kernel_rfl) (by kernel_rfl)) ?_
  intro W base args ds gs before hval0 hW hcnd _
  have hval : ∀ (j : Nat) t v, Try.f3.params[j]? = some t → args[j]? = some v → Value.okWide Try.prog W .any base t v := hval0
  have hW' := hW
  obtain ⟨p, q, hA0, hV, rfl, hfz, hnd⟩ := hW
  have hA : DataW.TrodAll enc Try.prog W 0 (fun _ => true) true Try.f3.params.toList args.toList ds p := hA0
  rw [Try.params3] at hA hval
  obtain ⟨v0, vs0, d0, ds0, p0, q0, hargs, rfl, rfl, h0, r0⟩ := trodAll_cons hA
  obtain ⟨rfl, rfl, rfl⟩ := trodAll_nil r0
  obtain rfl : args = #[v0] := by cases args; simp_all
  obtain ⟨rfl, rfl⟩ := trodVars_none hV
  obtain ⟨a0, len0, cap0, rfl⟩ := okWide_slice Try.underlying22 (hval 0 22 v0 rfl rfl)
  have k0 := h0
  have lt0 : ∀ x ∈ p0, x.block < W.heap.size := by obtain ⟨m, hm⟩ := k0; exact DataW.trod_lt m _ _ _ hm
  obtain ⟨z0, w0⟩ : ∃ zs, IsRow .i64 W a0 len0 cap0 zs := by
    obtain ⟨fuel, hf⟩ := h0
    rcases open_ints Try.underlying22 Try.underlying3 (by kernel_rfl) hf with ⟨hcs, _⟩ | ⟨x, l, c, zs, hcs, _, hl, hm, hz, _, hcell, hwz⟩
    · simp [Value.cells] at hcs
      obtain ⟨rfl, rfl, rfl⟩ := hcs
      exact ⟨[], .inl ⟨rfl, rfl, rfl, rfl⟩⟩
    · simp [Value.cells] at hcs
      obtain ⟨rfl, rfl, rfl⟩ := hcs
      exact ⟨zs, .inr ⟨_, rfl, hl, hm, by simpa using hz, hcell, hwz⟩⟩
  clear hA0 hval0
  refine (walk a0 len0 cap0 z0 W w0).mono fun e W' ⟨he, bel⟩ => ?_
  subst he
  exact ⟨_, rfl, _, _, _, [], _, [], hW', trodAll_mk1 (shut_bool Try.underlying4 _), (trodAll_cons_mk (Below.trod laidOut (by kernel_rfl) (of_decide_eq_true (by kernel_rfl)) k0 bel lt0) trodAll_mk0), rfl, bel.frame _, fun h => by cases h⟩

theorem over : Rows.wordRegionsRow.holds Try.pinned (OpenSpec.ofChange Rows.wordRegionsSpec) :=
  OpenClaim.holds_of_wide 3 Try.f3 rfl rfl rfl rfl rfl rfl rfl ⟨rfl, rfl, rfl, rfl, rfl⟩ rfl rfl rfl rfl rfl (by kernel_rfl) Try.func3 (by kernel_rfl)
    (of_decide_eq_true (by kernel_rfl)) (by unfold Func.isWrapper; first | (rw [if_pos (by decide +kernel)]; kernel_rfl) | (rw [if_neg (by decide +kernel)]; exact ⟨rfl, rfl⟩))
    (fun os started H enc _ => lifted os started H enc)

theorem proved : Rows.WordRegionsSaid := over
end Go.Proofs.Ytgdhgeongdenpaa.wordRegions
