/- ref19.Same and SameRegion of equal words and regions; the example, shapesearchlaw19.awake. -/
import Derived.Test.YtgdhgeongdenpaaWd12
namespace Go.Proofs.Ytgdhgeongdenpaa.Wd
open Go.ChangeShapes Go.WideShapes Go.RowKit Wo Sr Wi Ms Pc Nr Rt Sg
set_option linter.unusedVariables false
set_option linter.unusedSimpArgs false
set_option maxHeartbeats 8000000 in
set_option maxRecDepth 100000 in
theorem same_ok (n : Nat) (sA bA tA cA : Option Addr) (sc bc tc cc : Nat) (S B : List Int) (hn : n ≤ 1000) (w : World) (hS : Zi w sA n S) (hB : Zi w bA n B) (hT : Zi w tA n S) (hC : Zi w cA n B) :
    Calls Try.prog 24 #[Wx n sA bA sc bc, Wx n tA cA tc cc] w fun e w' => e = .returned (.bool true) ∧ Bel w w' := by
  have I1 : Hid (∀ W, Bel w W → Calls Try.prog 25 #[.slice sA n sc, .slice tA n tc] W fun e w' => e = .returned (.bool true) ∧ Bel W w') := fun W hW => ints_same sA tA sc tc n S (by omega) W (hS.bel hW) (hT.bel hW)
  have I2 : Hid (∀ W, Bel w W → Calls Try.prog 25 #[.slice bA n bc, .slice cA n cc] W fun e w' => e = .returned (.bool true) ∧ Bel W w') := fun W hW => ints_same bA cA bc cc n B (by omega) W (hB.bel hW) (hC.bel hW)
  have HB1 : Hid (Bk ((w.alloc (.cells #[.slice sA n sc, .slice bA n bc] 32)).alloc (.cells #[.slice tA n tc, .slice cA n cc] 32)) w.heap.size 32 #[.slice sA n sc, .slice bA n bc]) := (Bk.nw _ _ _).al _
  have HB2 : Hid (Bk ((w.alloc (.cells #[.slice sA n sc, .slice bA n bc] 32)).alloc (.cells #[.slice tA n tc, .slice cA n cc] 32)) (w.heap.size + 1) 32 #[.slice tA n tc, .slice cA n cc]) := Bk.nq _ _ _ (by simp)
  have HW0 : Hid (Bel w ((w.alloc (.cells #[.slice sA n sc, .slice bA n bc] 32)).alloc (.cells #[.slice tA n tc, .slice cA n cc] 32))) := (Bel.rf.al _).al _
  have M1 : True := trivial
  clear hS hB hT hC
  unfold Wx
  go_enter Try.func24, Try.ntmps24
  go_wp2_with (first
    | (go_at_call 25; clear M1; refine (I1.out _ (by repeat (first | exact Bel.rf | (with_reducible refine Bel.drwN ?_ _) | (with_reducible refine Bel.drw ?_) | (with_reducible refine Bel.al ?_ _)))).mono ?_; rintro e w1 ⟨rfl, hb1⟩; have HK1 := Lib.hid ((HB1.out.bel (by repeat (first | exact Bel.rf | (with_reducible refine Bel.drwN ?_ _) | (with_reducible refine Bel.drw ?_) | (with_reducible refine Bel.al ?_ _)))).bel hb1); have HK2 := Lib.hid ((HB2.out.bel (by repeat (first | exact Bel.rf | (with_reducible refine Bel.drwN ?_ _) | (with_reducible refine Bel.drw ?_) | (with_reducible refine Bel.al ?_ _)))).bel hb1); have HW1 : Hid (Bel w w1) := HW0.out.tr (Bel.tr (by repeat (first | exact Bel.rf | (with_reducible refine Bel.drwN ?_ _) | (with_reducible refine Bel.drw ?_) | (with_reducible refine Bel.al ?_ _))) hb1); have q1 := HK1.out.cell 1; have q2 := HK2.out.cell 1; simp only [List.getElem?_toArray, List.getElem?_cons_zero, List.getElem?_cons_succ] at q1 q2; clear hb1)
    | (go_at_call 25; refine (I2.out _ (by repeat (first | exact HW1.out | (with_reducible refine Bel.drwN ?_ _) | (with_reducible refine Bel.drw ?_) | (with_reducible refine Bel.al ?_ _)))).mono ?_; rintro e w2 ⟨rfl, hb2⟩; have HW2 : Hid (Bel w w2) := HW1.out.tr (Bel.tr (by repeat (first | exact Bel.rf | (with_reducible refine Bel.drwN ?_ _) | (with_reducible refine Bel.drw ?_) | (with_reducible refine Bel.al ?_ _))) hb2); clear hb2))
  go_ret
  exact ⟨rfl, (by repeat (first | exact HW2.out | (with_reducible refine Bel.drwN ?_ _) | (with_reducible refine Bel.drw ?_) | (with_reducible refine Bel.al ?_ _)))⟩
set_option maxHeartbeats 8000000 in
set_option maxRecDepth 100000 in
theorem region_same (n h1 h2 c1 c2 : Nat) (L : List Rp) (hn : n ≤ 8) (hl : L.length = n) (w : World) (hk1 : Bk w h1 45 (rs L).toArray) (hk2 : Bk w h2 45 (rs L).toArray) :
    Calls Try.prog 56 #[.slice (some ⟨h1, 0, none⟩) n c1, .slice (some ⟨h2, 0, none⟩) n c2] w fun e w' => e = .returned (.bool true) ∧ Bel w w' := by
  have HK := Lib.hid (And.intro hk1 hk2)
  have HL := Lib.hid hl
  have ni : (n : Int) ≤ 8 := by omega
  have nn := ne_self (n : Int)
  clear hk1 hk2 hl
  go_enter Try.func56, Try.ntmps56
  go_wp2
  go_loopw [13] (fun s13 wr => ∃ (i : Nat) (V : World), V = wr ∧ i ≤ n ∧ s13 = .int .i64 (i : Int) ∧ Bel w wr) (fun s13 _ => n - (intOf s13).toNat)
  case atStart => exact ⟨0, _, rfl, by omega, rfl, (by repeat (first | exact Bel.rf | (with_reducible refine Bel.drwN ?_ _) | (with_reducible refine Bel.drw ?_) | (with_reducible refine Bel.al ?_ _)))⟩
  case round =>
    obtain ⟨i, wr, hwr, hi, rfl, hb⟩ := hrel
    subst hwr
    have HB := Lib.hid hb
    rcases Nat.lt_or_ge i n with hlt | hge
    · have e := rs_at L i (by rw [HL.out]; exact hlt)
      have a1 := (HK.out.1.bel hb).cell (i * 2)
      have a2 := (HK.out.1.bel hb).cell (i * 2 + 1)
      have b1 := (HK.out.2.bel hb).cell (i * 2)
      have b2 := (HK.out.2.bel hb).cell (i * 2 + 1)
      rw [List.getElem?_toArray] at a1 a2 b1 b2
      rw [e.1] at a1 b1
      rw [e.2] at a2 b2
      obtain ⟨x, hx⟩ : ∃ x, (L.getD i (0, 0)).1 = x := ⟨_, rfl⟩
      obtain ⟨y, hy⟩ : ∃ x, (L.getD i (0, 0)).2 = x := ⟨_, rfl⟩
      rw [hx] at a1 b1
      rw [hy] at a2 b2
      have n1 := ne_self x
      have n2 := ne_self y
      have ii : (i : Int) < (n : Int) := by omega
      have i0 : (0 : Int) ≤ (i : Int) := by omega
      have KS : Hid (∀ W, Bel wr W → W.cell? (⟨h1, i * 2, none⟩ : Addr) = some (.int .i64 x) ∧ W.cell? (⟨h1, i * 2 + 1, none⟩ : Addr) = some (.int .i64 y) ∧ W.cell? (⟨h2, i * 2, none⟩ : Addr) = some (.int .i64 x) ∧ W.cell? (⟨h2, i * 2 + 1, none⟩ : Addr) = some (.int .i64 y)) := fun W hW => ⟨hW.kp a1, hW.kp a2, hW.kp b1, hW.kp b2⟩
      clear e hx hy hb
      go_wp2_with fail
      refine wp_region_noPanic ?_
      refine wp_region_held_drew (S := fun W => Bel wr W) (by kernel_rfl) ?_ (fun hH0 => ?_)
      · (try dsimp only); exact (by repeat (first | exact Bel.rf | (with_reducible refine Bel.drwN ?_ _) | (with_reducible refine Bel.drw ?_) | (with_reducible refine Bel.al ?_ _)))
      refine wpAnyH_take (i := 0) (oi := ⟨some 16, .move (.tmp 0), 41, "ref.go:184", #[], none⟩) (v := ?_) rfl (by kernel_rfl) (by kernel_rfl) (by kernel_rfl) (fun _ _ _ h => h) (Or.inl ⟨by first | kernel_rfl | rfl, ?_⟩) (by assumption) ?_
      rotate_left
      · (intro w hSw; (try dsimp only at hSw); obtain ⟨d1, d2, d3, d4⟩ := KS.out _ hSw; go_simp; try with_reducible rfl)
      try simp only [Act.put, List.setIfInBounds_toArray, List.set_cons_zero, List.set_cons_succ]
      refine wpAnyH_take (i := 1) (oi := ⟨some 17, .move (.tmp 5), 3, "ref.go:184", #[], none⟩) (v := ?_) rfl (by kernel_rfl) (by kernel_rfl) (by kernel_rfl) (fun _ _ _ h => h) (Or.inl ⟨by first | kernel_rfl | rfl, ?_⟩) (by assumption) ?_
      rotate_left
      · (intro w hSw; (try dsimp only at hSw); obtain ⟨d1, d2, d3, d4⟩ := KS.out _ hSw; go_simp; try with_reducible rfl)
      try simp only [Act.put, List.setIfInBounds_toArray, List.set_cons_zero, List.set_cons_succ]
      refine wpAnyH_take (i := 2) (oi := ⟨some 18, .indexAddr 41 (.tmp 16) (.tmp 17), 0, "ref.go:184", #[⟨0, .data⟩, ⟨1, .data⟩], none⟩) (v := ?_) rfl (by kernel_rfl) (by kernel_rfl) (by kernel_rfl) (fun _ _ _ h => h) (Or.inl ⟨by first | kernel_rfl | rfl, ?_⟩) (by assumption) ?_
      rotate_left
      · (intro w hSw; (try dsimp only at hSw); obtain ⟨d1, d2, d3, d4⟩ := KS.out _ hSw; go_simp; try with_reducible rfl)
      try simp only [Act.put, List.setIfInBounds_toArray, List.set_cons_zero, List.set_cons_succ]
      refine wpAnyH_take (i := 3) (oi := ⟨some 19, .load 45 (.tmp 18), 45, "ref.go:184", #[⟨2, .data⟩], none⟩) (v := ?_) rfl (by kernel_rfl) (by kernel_rfl) (by kernel_rfl) (fun _ _ _ h => h) (Or.inl ⟨by first | kernel_rfl | rfl, ?_⟩) (by assumption) ?_
      rotate_left
      · (intro w hSw; (try dsimp only at hSw); obtain ⟨d1, d2, d3, d4⟩ := KS.out _ hSw; go_simp; try with_reducible rfl)
      try simp only [Act.put, List.setIfInBounds_toArray, List.set_cons_zero, List.set_cons_succ]
      refine wpAnyH_take (i := 4) (oi := ⟨some 20, .move (.tmp 1), 41, "ref.go:184", #[], none⟩) (v := ?_) rfl (by kernel_rfl) (by kernel_rfl) (by kernel_rfl) (fun _ _ _ h => h) (Or.inl ⟨by first | kernel_rfl | rfl, ?_⟩) (by assumption) ?_
      rotate_left
      · (intro w hSw; (try dsimp only at hSw); obtain ⟨d1, d2, d3, d4⟩ := KS.out _ hSw; go_simp; try with_reducible rfl)
      try simp only [Act.put, List.setIfInBounds_toArray, List.set_cons_zero, List.set_cons_succ]
      refine wpAnyH_take (i := 5) (oi := ⟨some 21, .move (.tmp 5), 3, "ref.go:184", #[], none⟩) (v := ?_) rfl (by kernel_rfl) (by kernel_rfl) (by kernel_rfl) (fun _ _ _ h => h) (Or.inl ⟨by first | kernel_rfl | rfl, ?_⟩) (by assumption) ?_
      rotate_left
      · (intro w hSw; (try dsimp only at hSw); obtain ⟨d1, d2, d3, d4⟩ := KS.out _ hSw; go_simp; try with_reducible rfl)
      try simp only [Act.put, List.setIfInBounds_toArray, List.set_cons_zero, List.set_cons_succ]
      refine wpAnyH_take (i := 6) (oi := ⟨some 22, .indexAddr 41 (.tmp 20) (.tmp 21), 0, "ref.go:184", #[⟨4, .data⟩, ⟨5, .data⟩], none⟩) (v := ?_) rfl (by kernel_rfl) (by kernel_rfl) (by kernel_rfl) (fun _ _ _ h => h) (Or.inl ⟨by first | kernel_rfl | rfl, ?_⟩) (by assumption) ?_
      rotate_left
      · (intro w hSw; (try dsimp only at hSw); obtain ⟨d1, d2, d3, d4⟩ := KS.out _ hSw; go_simp; try with_reducible rfl)
      try simp only [Act.put, List.setIfInBounds_toArray, List.set_cons_zero, List.set_cons_succ]
      refine wpAnyH_take (i := 7) (oi := ⟨some 23, .load 45 (.tmp 22), 45, "ref.go:184", #[⟨6, .data⟩], none⟩) (v := ?_) rfl (by kernel_rfl) (by kernel_rfl) (by kernel_rfl) (fun _ _ _ h => h) (Or.inl ⟨by first | kernel_rfl | rfl, ?_⟩) (by assumption) ?_
      rotate_left
      · (intro w hSw; (try dsimp only at hSw); obtain ⟨d1, d2, d3, d4⟩ := KS.out _ hSw; go_simp; try with_reducible rfl)
      try simp only [Act.put, List.setIfInBounds_toArray, List.set_cons_zero, List.set_cons_succ]
      refine wpAnyH_take (i := 8) (oi := ⟨some 24, .binOp BinOp.neq 45 (.tmp 19) (.tmp 23) 45, 4, "ref.go:184", #[⟨3, .data⟩, ⟨7, .data⟩], none⟩) (v := ?_) rfl (by kernel_rfl) (by kernel_rfl) (by kernel_rfl) (fun _ _ _ h => h) (Or.inl ⟨by first | kernel_rfl | rfl, ?_⟩) (by assumption) ?_
      rotate_left
      · (intro w hSw; (try dsimp only at hSw); obtain ⟨d1, d2, d3, d4⟩ := KS.out _ hSw; go_simp; try with_reducible rfl)
      try simp only [Act.put, List.setIfInBounds_toArray, List.set_cons_zero, List.set_cons_succ]
      refine wpAnyH_done (by kernel_rfl) ?_ _
      refine NoPanic.normal ?_
      go_wp2
      go_roundw
      case rel => exact ⟨i + 1, _, rfl, by omega, by go_num, (by repeat (first | exact HB.out | (with_reducible refine Bel.drwN ?_ _) | (with_reducible refine Bel.drw ?_) | (with_reducible refine Bel.al ?_ _)))⟩
      case measure => simp [intOf]; omega
    · obtain rfl : i = n := by omega
      clear hb
      go_wp2
      go_ret
      exact ⟨rfl, (by repeat (first | exact HB.out | (with_reducible refine Bel.drwN ?_ _) | (with_reducible refine Bel.drw ?_) | (with_reducible refine Bel.al ?_ _)))⟩
def SomeEx (w : World) (e : Ending) (w' : World) : Prop := ∃ a, e = .returned (Sx 1 0 0 4 2 (some ⟨a, 0, none⟩) 2 2) ∧ Zi w' (some ⟨a, 0, none⟩) 2 [0, 10] ∧ Bel w w'
theorem example_ok (w : World) : Calls Try.prog 55 #[] w (SomeEx w) := by
  go_enter Try.func55, Try.ntmps55
  go_wp2
  exact bodyPost_ret (v := Sx 1 0 0 4 2 (some ⟨w.heap.size + 1, 0, none⟩) 2 2) (results_s Try.results55 _ _ w.heap.size _ _ _ _ _ _ rfl (by repeat (first | (refine Bk.nq _ _ _ ?_; simp; done) | (with_reducible refine Bk.drwN ?_ _) | (with_reducible refine Bk.drw ?_) | (with_reducible refine Bk.al ?_ _)))) rfl ⟨w.heap.size + 1, rfl, zi_bk (t := 3) (L := [0, 10]) (by repeat (first | (refine Bk.nq _ _ _ ?_; simp; done) | (with_reducible refine Bk.drwN ?_ _) | (with_reducible refine Bk.drw ?_) | (with_reducible refine Bk.al ?_ _))) 2 rfl, (by repeat (first | exact Bel.rf | (with_reducible refine Bel.drwN ?_ _) | (with_reducible refine Bel.drw ?_) | (with_reducible refine Bel.al ?_ _)))⟩
theorem ex_sv : Sv 1 0 0 4 2 [0, 10] := ⟨.inl ⟨.inl rfl, rfl, rfl⟩, by decide, by decide, by decide, by decide, by decide, ⟨by decide, fun i hi => by
  rcases (by simp at hi; omega : i = 0 ∨ i = 1) with rfl | rfl <;> decide, fun i hi => by
  obtain rfl : i = 0 := by simp at hi; omega
  decide⟩⟩
theorem ex_sys : sys 1 [0, 10] [1, 2, -5, -6] 4 2 = [1, 0] := by decide
theorem ex_rgn : rgn 2 [0, 10] [0, 3] [3, 4] = [(-1099511627776, 9), (1, 0)] := by decide
theorem ex_wv : Wv 2 [0, 3] [3, 4] := ⟨rfl, rfl, fun p hp => by
  rcases (by omega : p = 0 ∨ p = 1) with rfl | rfl <;> decide⟩
set_option maxHeartbeats 8000000 in
set_option maxRecDepth 100000 in
theorem awake_any (w : World) : Calls Try.prog 19 #[] w fun e w' => e = .returned (.bool true) ∧ Bel w w' := by
  go_enter Try.func19, Try.ntmps19
  go_wp2_with fail
  go_at_call 55
  refine (example_ok _).mono ?_
  rintro e w1 ⟨a, rfl, hza, hb1⟩
  have HW1 : Hid (Bel w w1) := Bel.tr (by repeat (first | exact Bel.rf | (with_reducible refine Bel.drwN ?_ _) | (with_reducible refine Bel.drw ?_) | (with_reducible refine Bel.al ?_ _))) hb1
  have HZA := Lib.hid hza
  clear hb1 hza
  go_wp2_with fail
  go_at_call 13
  refine (of_ok 1 0 0 4 2 (some ⟨a, 0, none⟩) 2 2 [0, 10] w1.heap.size 4 [1, 2, -5, -6] ex_sv (by intro x hx; simp at hx; rcases hx with rfl | rfl | rfl | rfl <;> decide) (by decide) _ (HZA.out.bel (by repeat (first | exact Bel.rf | (with_reducible refine Bel.drwN ?_ _) | (with_reducible refine Bel.drw ?_) | (with_reducible refine Bel.al ?_ _)))) (zi_bk (t := 3) (L := [1, 2, -5, -6]) (by repeat (first | (refine Bk.nq _ _ _ ?_; simp; done) | (with_reducible refine Bk.drwN ?_ _) | (with_reducible refine Bk.drw ?_) | (with_reducible refine Bk.al ?_ _))) 4 rfl)).mono ?_
  rintro e w2 ⟨sA, bA, sc, bc, rfl, hs, hb, hb2, _, _⟩
  rw [ex_sys] at hs
  have HW2 : Hid (Bel w w2) := HW1.out.tr (Bel.tr (by repeat (first | exact Bel.rf | (with_reducible refine Bel.drwN ?_ _) | (with_reducible refine Bel.drw ?_) | (with_reducible refine Bel.al ?_ _))) hb2)
  have HS := Lib.hid (And.intro hs hb)
  have HT : Hid (Bk (w2.alloc (.cells #[.slice sA 2 sc, .slice bA 2 bc] 32)) w2.heap.size 32 #[.slice sA 2 sc, .slice bA 2 bc]) := Bk.nw _ _ _
  clear hs hb hb2
  unfold Wx
  go_wp2_with fail
  go_at_call 55
  refine (example_ok _).mono ?_
  rintro e w3 ⟨a3, rfl, hza, hb3⟩
  have hc23 : Bel (w2.alloc (.cells #[.slice sA 2 sc, .slice bA 2 bc] 32)) w3 := Bel.tr (by repeat (first | exact Bel.rf | (with_reducible refine Bel.drwN ?_ _) | (with_reducible refine Bel.drw ?_) | (with_reducible refine Bel.al ?_ _))) hb3
  have HW3 : Hid (Bel w w3) := HW2.out.tr ((Bel.rf.al _).tr hc23)
  have HT3 := Lib.hid (HT.out.bel hc23)
  have HS3 : Hid (Zi w3 sA 2 [1, 0] ∧ Zi w3 bA 2 (List.replicate 2 4)) := ⟨HS.out.1.bel ((Bel.rf.al _).tr hc23), HS.out.2.bel ((Bel.rf.al _).tr hc23)⟩
  have HZ3 := Lib.hid hza
  clear hza hb3 hc23
  go_wp2_with fail
  go_at_call 17
  refine (region_ok 1 0 0 4 2 (some ⟨a3, 0, none⟩) (some ⟨w3.heap.size, 0, none⟩) (some ⟨w3.heap.size + 1, 0, none⟩) 2 2 2 2 [0, 10] [0, 3] [3, 4] ex_sv ex_wv _ (HZ3.out.bel (by repeat (first | exact Bel.rf | (with_reducible refine Bel.drwN ?_ _) | (with_reducible refine Bel.drw ?_) | (with_reducible refine Bel.al ?_ _)))) (zi_bk (t := 3) (L := [0, 3]) (by repeat (first | (refine Bk.nq _ _ _ ?_; simp; done) | (with_reducible refine Bk.drwN ?_ _) | (with_reducible refine Bk.drw ?_) | (with_reducible refine Bk.al ?_ _))) 2 rfl) (zi_bk (t := 3) (L := [3, 4]) (by repeat (first | (refine Bk.nq _ _ _ ?_; simp; done) | (with_reducible refine Bk.drwN ?_ _) | (with_reducible refine Bk.drw ?_) | (with_reducible refine Bk.al ?_ _))) 2 rfl)).mono ?_
  rintro e w4 ⟨r, rfl, hr0, hrk, hb4⟩
  rw [ex_rgn] at hrk
  have hc34 : Bel w3 w4 := Bel.tr (by repeat (first | exact Bel.rf | (with_reducible refine Bel.drwN ?_ _) | (with_reducible refine Bel.drw ?_) | (with_reducible refine Bel.al ?_ _))) hb4
  have HW4 : Hid (Bel w w4) := HW3.out.tr hc34
  have HT4 := Lib.hid (HT3.out.bel hc34)
  have HS4 : Hid (Zi w4 sA 2 [1, 0] ∧ Zi w4 bA 2 (List.replicate 2 4)) := ⟨HS3.out.1.bel hc34, HS3.out.2.bel hc34⟩
  have HRK := Lib.hid hrk
  have t0 := HT4.out.cell 0
  have t1 := HT4.out.cell 1
  simp only [List.getElem?_toArray, List.getElem?_cons_zero, List.getElem?_cons_succ] at t0 t1
  clear hr0 hrk hb4 hc34
  go_wp2_with (first
    | (go_at_call 24; refine (same_ok 2 sA bA (some ⟨w4.heap.size, 0, none⟩) (some ⟨w4.heap.size + 1, 0, none⟩) sc bc 2 2 [1, 0] (List.replicate 2 4) (by decide) _ (HS4.out.1.bel (by repeat (first | exact Bel.rf | (with_reducible refine Bel.drwN ?_ _) | (with_reducible refine Bel.drw ?_) | (with_reducible refine Bel.al ?_ _)))) (HS4.out.2.bel (by repeat (first | exact Bel.rf | (with_reducible refine Bel.drwN ?_ _) | (with_reducible refine Bel.drw ?_) | (with_reducible refine Bel.al ?_ _)))) (zi_bk (t := 3) (L := [1, 0]) (by repeat (first | (refine Bk.nq _ _ _ ?_; simp; done) | (with_reducible refine Bk.drwN ?_ _) | (with_reducible refine Bk.drw ?_) | (with_reducible refine Bk.al ?_ _))) 2 rfl) (zi_bk (t := 3) (L := [4, 4]) (by repeat (first | (refine Bk.nq _ _ _ ?_; simp; done) | (with_reducible refine Bk.drwN ?_ _) | (with_reducible refine Bk.drw ?_) | (with_reducible refine Bk.al ?_ _))) 2 rfl)).mono ?_; rintro e w5 ⟨rfl, hb5⟩; have hc45 : Bel w4 w5 := Bel.tr (by repeat (first | exact Bel.rf | (with_reducible refine Bel.drwN ?_ _) | (with_reducible refine Bel.drw ?_) | (with_reducible refine Bel.al ?_ _))) hb5; have HW5 : Hid (Bel w w5) := HW4.out.tr hc45; have HRK5 := Lib.hid (HRK.out.bel hc45); clear hb5 hc45)
    | (go_at_call 56; refine (region_same 2 r w5.heap.size 2 2 [(-1099511627776, 9), (1, 0)] (by decide) rfl _ (HRK5.out.bel (by repeat (first | exact Bel.rf | (with_reducible refine Bel.drwN ?_ _) | (with_reducible refine Bel.drw ?_) | (with_reducible refine Bel.al ?_ _)))) ((by repeat (first | (refine Bk.nq _ _ _ ?_; simp; done) | (with_reducible refine Bk.drwN ?_ _) | (with_reducible refine Bk.drw ?_) | (with_reducible refine Bk.al ?_ _))) : Bk _ w5.heap.size 45 #[.int .i64 (-1099511627776), .int .i64 9, .int .i64 1, .int .i64 0])).mono ?_; rintro e w6 ⟨rfl, hb6⟩; have HW6 : Hid (Bel w w6) := HW5.out.tr (Bel.tr (by repeat (first | exact Bel.rf | (with_reducible refine Bel.drwN ?_ _) | (with_reducible refine Bel.drw ?_) | (with_reducible refine Bel.al ?_ _))) hb6); clear hb6))
  go_ret
  exact ⟨rfl, (by repeat (first | exact HW6.out | (with_reducible refine Bel.drwN ?_ _) | (with_reducible refine Bel.drw ?_) | (with_reducible refine Bel.al ?_ _)))⟩
end Go.Proofs.Ytgdhgeongdenpaa.Wd
