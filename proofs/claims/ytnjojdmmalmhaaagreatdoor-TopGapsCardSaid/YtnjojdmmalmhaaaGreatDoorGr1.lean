/- Merged: Res7. -/
import Derived.Test.YtnjojdmmalmhaaaGreatDoorGl1
import Derived.Test.YtnjojdmmalmhaaaGreatDoorGl2
import Derived.Test.YtnjojdmmalmhaaaGreatDoorGl3
namespace Go.Proofs.YtnjojdmmalmhaaaGreatDoor.Rg
open Go.ChangeShapes Go.WideShapes Go.RowKit Wo Sr Wi Rm
set_option linter.unusedVariables false
theorem _root_.Go.Proofs.YtnjojdmmalmhaaaGreatDoor.Wo.Bk.ch2 {a b : World} {g k : Nat} {t : TypeId} {cs : Array Value} (hc : Bk a k t cs) (h : Ch g a b) (hn : k ≠ g) : Bk b k t cs := h.bk hc hn
theorem _root_.Go.Proofs.YtnjojdmmalmhaaaGreatDoor.Sr.Ch.pre {a b c : World} {g : Nat} (k : Ch g b c) (h : Ch g a b) : Ch g a c := h.tr k
/-- a grid of the reader's make -/
def SomeGrid (g k : Nat) (l : List Rp) (w : World) (e : Ending) (w' : World) : Prop := ∃ (f s r q : Int) (N : Nat), e = .returned (gv f s (N : Int) r q) ∧ Gv f s (N : Int) r q ∧ f ≤ 1099511627576 ∧ (f = 0 ∨ ∃ i, i < k ∧ f ≤ tm l i + 15) ∧ s ≤ 9 ∧ N ≤ 19 ∧ Ok w' g ∧ Ch g w w'
theorem gv_in {f s r q : Int} {N : Nat} (f0 : 0 ≤ f) (f1 : f ≤ 1099511627576) (s0 : 1 ≤ s) (s1 : s ≤ 9) (hN : N ≤ 19) (r0 : 1 ≤ r) (r1 : r ≤ 3) (q0 : 0 ≤ q) (q1 : q ≤ 1099511627776) : Gv f s (N : Int) r q :=
  ⟨f0, by omega, s0, by omega, by omega, by omega, fun h => by
    have := Int.mul_le_mul (show (N : Int) - 1 ≤ 18 by omega) s1 (by omega) (by decide)
    omega, r0, r1, q0, q1⟩
set_option maxHeartbeats 8000000 in
theorem kgrid_any (g k ca : Nat) (A : Option Addr) (l : List Rp) (hk : k ≤ 2000) (hv : Vrs l) (w : World) (h : Ok w g) (hz : Zr w A k l) (hA : ∀ b, A = some ⟨b, 0, none⟩ → b ≠ g) :
    Calls Tryz.prog 15 #[.pointer (some ⟨g, 0, none⟩), .slice A k ca] w (SomeGrid g k l w) := by
  have HO := Lib.hid h
  have HZ := Lib.hid hz
  have HAA := Lib.hid hA
  have HV := Lib.hid hv
  have HGL := Lib.hid h.lt
  have ki : (k : Int) ≤ 2000 := by omega
  clear h hz hA hv
  go_enter Tryz.func15, Tryz.ntmps15
  go_wp2_with fail
  go_at_call 21
  refine (range_any g 1 9 (by decide) (by decide) (by decide) _ (HO.out.bel (Bel.rf.al _))).mono ?_
  rintro e w1 ⟨s, rfl, s0, s1, ho, hc⟩
  have HO1 := Lib.hid ho
  have HC1 : Hid (Ch g (w.alloc (.cells #[.int .i64 0, .int .i64 0, .int .i64 0, .int .i64 0, .int .i64 0] 49)) w1) := hc
  clear ho hc
  go_wp2_with fail
  go_at_call 23
  refine (n_any g 20 (by decide) (by decide) _ HO1.out).mono ?_
  rintro e w2 ⟨c, rfl, c0, c1, ho, hc⟩
  obtain ⟨N, rfl⟩ := Int.eq_ofNat_of_zero_le c0
  have HO2 := Lib.hid ho
  have HC2 := Lib.hid (HC1.out.tr hc)
  clear ho hc
  go_wp2_with fail
  go_at_call 21
  refine (range_any g 1 3 (by decide) (by decide) (by decide) _ HO2.out).mono ?_
  rintro e w3 ⟨r, rfl, r0, r1, ho, hc⟩
  have HO3 := Lib.hid ho
  have HC3 := Lib.hid (HC2.out.tr hc)
  clear ho hc
  go_wp2_with fail
  go_at_call 20
  refine (pick_any g w3.heap.size [0, 1, 3, 6, 20, 1099511627776] 6 (by rfl) (by decide) (by decide) (by have := HO3.out.lt; omega) _ (HO3.out.bel (Bel.rf.al _)) (lst_new _ _ _ _ (by rfl) _ rfl)).mono ?_
  rintro e w4 ⟨q, rfl, hq, ho, hc⟩
  have q0 : 0 ≤ q ∧ q ≤ 1099511627776 := by simp at hq; omega
  obtain ⟨q0, q1⟩ := q0
  have HO4 := Lib.hid ho
  have HC4 := Lib.hid ((HC3.out.al _).tr hc)
  clear ho hc hq
  have KR : Bk w4 w.heap.size 49 #[.int .i64 0, .int .i64 0, .int .i64 0, .int .i64 0, .int .i64 0] := HC4.out.bk (Bk.nw w _ _) (by have := HGL.out; omega)
  have HKR := Lib.hid KR
  have kz := KR.lt
  have gl4 := HO4.out.lt
  have HCW : Hid (Ch g w w4) := (Ch.rf.al _).tr HC4.out
  have HZ4 : Hid (Zr w4 A k l) := HZ.out.ch HCW.out HAA.out
  clear KR
  rcases Nat.eq_zero_or_pos k with rfl | hkp
  · have n0 := HKR.out.cell 0
    have n1 := HKR.out.cell 1
    have n2 := HKR.out.cell 2
    have n3 := HKR.out.cell 3
    have n4 := HKR.out.cell 4
    have m0 := HKR.out.fr 0
    have m1 := HKR.out.fr 1
    have m2 := HKR.out.fr 2
    have m3 := HKR.out.fr 3
    have m4 := HKR.out.fr 4
    simp at n0 n1 n2 n3 n4
    go_wp2
    refine bodyPost_ret (v := gv 0 s (N : Int) r q) (results_g Tryz.results15 _ _ w.heap.size (.int .i64 0) (.int .i64 s) (.int .i64 (N : Int)) (.int .i64 r) (.int .i64 q) rfl ((((((HKR.out.st 0 _).st 1 _).st 2 _).st 3 _).st 4 _).al _)) rfl ?_
    refine ⟨0, s, r, q, N, rfl, gv_in (by decide) (by decide) s0 s1 (by omega) r0 r1 q0 q1, by decide, .inl rfl, s1, by omega, ?_, ?_⟩
    · exact (((((HO4.out.st HGL.out _).st HGL.out _).st HGL.out _).st HGL.out _).st HGL.out _).bel (Bel.rf.al _)
    · exact (((((HCW.out.st2 (Nat.le_refl _) _).st2 (Nat.le_refl _) _).st2 (Nat.le_refl _) _).st2 (Nat.le_refl _) _).st2 (Nat.le_refl _) _).al _
  · obtain ⟨b, hb, hbl, hbc⟩ := HZ4.out.2 hkp
    subst hb
    have hbg := HAA.out b rfl
    have HBC := Lib.hid (And.intro hbl hbc)
    have kk0 : (1 : Int) ≤ (k : Int) := by omega
    have kk1 : (0 : Int) < (k : Int) := by omega
    have hgw : g < w.heap.size := HGL.out
    have GG : Hid (Bk (w4.alloc (.cells #[.int .i64 0, .int .i64 s, .int .i64 (N : Int), .int .i64 r, .int .i64 q] 49)) w4.heap.size 49 #[.int .i64 0, .int .i64 s, .int .i64 (N : Int), .int .i64 r, .int .i64 q]) := Bk.nw _ _ _
    have HG5 : Hid (Ok (w4.alloc (.cells #[.int .i64 0, .int .i64 s, .int .i64 (N : Int), .int .i64 r, .int .i64 q] 49)) g) := HO4.out.bel (Bel.rf.al _)
    clear hbl hbc
    go_wp2
    generalize hW : w4.alloc (.cells #[.int .i64 0, .int .i64 s, .int .i64 (N : Int), .int .i64 r, .int .i64 q] 49) = W5
    rw [hW] at GG HG5
    have HW : Hid (Bel w4 W5) := by show Bel _ _; rw [← hW]; exact Bel.rf.al _
    clear hW
    go_region_with (first
      | (go_at_call 23; refine (n_any g (k : Int) (by omega) (by omega) _ (by repeat (first | exact HG5.out | refine Ok.drwN ?_ _))).mono ?_; rintro e w6 ⟨y, rfl, y0, y1, ho, hc⟩; obtain ⟨j, rfl⟩ := Int.eq_ofNat_of_zero_le y0; have hc6 : Ch g W5 w6 := (by repeat (first | exact hc | refine Ch.tr ?_ hc | exact Ch.rf.drwN _ | exact Ch.rf.drw)); have hjk : j < k := (by omega); have jk : (j : Int) < (k : Int) := (by omega); have cj : w6.cell? ⟨b, j * 2, none⟩ = some (.int .i64 (tm l j)) := hc6.kp (HW.out.kp (HBC.out.2 j hjk).1) hbg; have hvj := HV.out j (by have := HZ4.out.1; omega); obtain ⟨T, hT⟩ : ∃ T, tm l j = T := ⟨_, rfl⟩; rw [hT] at cj hvj; obtain ⟨v0, v1, _, _⟩ := hvj; have HO6 := Lib.hid ho; have HC6 := Lib.hid hc6; have G6 := hc6.bk GG.out (by omega); have f6 := G6.fr 0; have q6 := G6.cell 0; simp at q6; have HG6 := Lib.hid G6; clear ho hc hc6 G6)
      | (go_at_call 21; refine (range_any g (-15) 15 (by decide) (by decide) (by decide) _ (by repeat (first | exact HO6.out | refine Ok.drwN ?_ _))).mono ?_; rintro e w7 ⟨z, rfl, z0, z1, ho, hc⟩; have hc7 : Ch g w6 w7 := (by repeat (first | exact hc | refine Ch.tr ?_ hc | exact Ch.rf.drwN _ | exact Ch.rf.drw)); have cj7 := hc7.kp cj hbg; have HO7 := Lib.hid ho; have HC7 := Lib.hid hc7; have G7 := hc7.bk HG6.out (by omega); have f7 := G7.fr 0; have q7 := G7.cell 0; simp at q7; have HG7 := Lib.hid G7; clear ho hc hc7 G7))
    all_goals
      have wq : IntKind.i64.wrap (T + z) = T + z := IntWalk.i64_in _ (by omega)
      obtain ⟨E, hE⟩ : ∃ E, (if 1099511627576 < IntKind.i64.wrap (T + z) then (1099511627576 : Int) else IntKind.i64.wrap (T + z)) = E := ⟨_, rfl⟩
      obtain ⟨F, hF⟩ : ∃ F, (if 0 < E then E else 0) = F := ⟨_, rfl⟩
      have hM : max (0 : Int) (min (IntKind.i64.wrap (T + z)) 1099511627576) = F := by
        rw [← hF, ← hE]
        generalize IntKind.i64.wrap (T + z) = a
        omega
      first
        | rw [hE, hF]
        | rw [hM]
      have hF2 : 0 ≤ F ∧ F ≤ 1099511627576 ∧ (F = 0 ∨ F ≤ T + z) := by
        rw [wq] at hE
        by_cases h1 : 1099511627576 < T + z
        · rw [if_pos h1] at hE
          split at hF <;> omega
        · rw [if_neg h1] at hE
          split at hF <;> omega
      have HFF := Lib.hid hF2
      have HTT := Lib.hid (And.intro hT hjk)
      obtain ⟨F0, F1, _⟩ := hF2
      have KR7 := (((HKR.out.bel HW.out).ch2 HC6.out (by omega)).ch2 HC7.out (by omega)).far (p := ⟨w4.heap.size, 0, none⟩) (by simp; omega) (.int .i64 F)
      have G8 := HG7.out.st 0 (.int .i64 F)
      generalize hX : w7.setCell { block := w4.heap.size, off := 0 } (Value.int IntKind.i64 F) = X
      rw [hX] at KR7 G8
      have HOX : Hid (Ok X g) := by show Ok X g; rw [← hX]; exact HO7.out.st (by simp; omega) _
      have HCX : Hid (Ch g w X) := by show Ch g w X; rw [← hX]; exact ((((Ch.of_bel (HW.out)).tr HC6.out).tr HC7.out).pre HCW.out).st2 (by simp; omega) _
      clear hX hT hF hE wq
      have e0 := G8.cell 0
      have e1 := G8.cell 1
      have e2 := G8.cell 2
      have e3 := G8.cell 3
      have e4 := G8.cell 4
      have n0 := KR7.cell 0
      have n1 := KR7.cell 1
      have n2 := KR7.cell 2
      have n3 := KR7.cell 3
      have n4 := KR7.cell 4
      have m0 := KR7.fr 0
      have m1 := KR7.fr 1
      have m2 := KR7.fr 2
      have m3 := KR7.fr 3
      have m4 := KR7.fr 4
      simp at n0 n1 n2 n3 n4 e0 e1 e2 e3 e4
      have HK7 := Lib.hid KR7
      clear KR7 G8
      go_wp2
      refine bodyPost_ret (v := gv F s (N : Int) r q) (results_g Tryz.results15 _ _ w.heap.size (.int .i64 F) (.int .i64 s) (.int .i64 (N : Int)) (.int .i64 r) (.int .i64 q) rfl (((((HK7.out.st 0 _).st 1 _).st 2 _).st 3 _).st 4 _)) rfl ?_
      refine ⟨F, s, r, q, N, rfl, gv_in F0 F1 s0 s1 (by omega) r0 r1 q0 q1, F1, ?_, s1, by omega, ?_, ?_⟩
      · rcases HFF.out.2.2 with h | h
        · exact .inl h
        · exact .inr ⟨j, HTT.out.2, by rw [HTT.out.1]; omega⟩
      · exact ((((HOX.out.st HGL.out _).st HGL.out _).st HGL.out _).st HGL.out _).st HGL.out _
      · exact ((((HCX.out.st2 (Nat.le_refl _) _).st2 (Nat.le_refl _) _).st2 (Nat.le_refl _) _).st2 (Nat.le_refl _) _).st2 (Nat.le_refl _) _
end Go.Proofs.YtnjojdmmalmhaaaGreatDoor.Rg
