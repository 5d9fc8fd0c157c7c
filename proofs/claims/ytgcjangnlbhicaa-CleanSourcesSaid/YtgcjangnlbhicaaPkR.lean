/- keep.Readings: a new row of valid readings. -/
import Derived.Test.YtgcjangnlbhicaaAsc
namespace Go.Proofs.Ytgcjangnlbhicaa.Rg
open Go.ChangeShapes Go.WideShapes Go.RowKit Wo Sr Wi Rm
set_option linter.unusedVariables false
theorem vrs_snoc {l : List Rp} (h : Vrs l) (a b : Int) (hv : Vr a b) : Vrs (l ++ [(a, b)]) := fun i hi => by
  have hl : (l ++ [(a, b)]).length = l.length + 1 := by simp
  rw [hl] at hi
  rw [snoc_tm, snoc_vl]
  by_cases h2 : i < l.length
  · rw [if_pos h2, if_pos h2]; exact h i h2
  · rw [if_neg h2, if_neg h2, if_pos (by omega), if_pos (by omega)]; exact hv
theorem vrs_nil : Vrs [] := fun i hi => by simp at hi
/-- a new row of valid readings -/
def SomeRds (g m : Nat) (w : World) (e : Ending) (w' : World) : Prop := ∃ (v : Value) (k : Nat) (l : List Rp), e = .returned v ∧ w'.ownsRow w.heap.size 28 2 v k (rs l) ∧ l.length = k ∧ k ≤ m ∧ Vrs l ∧ Ok w' g ∧ Ch g w w'
def RI (N : Nat) (g base : Nat) (w : World) (s5 s6 s7 : Value) (wr : World) : Prop := ∃ (k : Nat) (l : List Rp) (t i : Int) (V : World) (u : Value), V = wr ∧ u = s5 ∧ k ≤ N ∧ s7 = .int .i64 i ∧ i = (N : Int) - (k : Int) ∧ s6 = .int .i64 t ∧
  wr.ownsRow base 28 2 s5 k (rs l) ∧ l.length = k ∧ Vrs l ∧ 0 ≤ t ∧ t ≤ 1099511627776 ∧ Ok wr g ∧ Ch g w wr ∧ base ≤ wr.heap.size
theorem ri_step {N g k : Nat} {w wr w1 w2 : World} {s5 v' : Value} {l : List Rp} {t y : Int} (hgb : g < w.heap.size) (hk : k < N) (hL : l.length = k) (hv : Vrs l) (t0 : 0 ≤ t) (t1 : t ≤ 1099511627776) (y0 : -1000 ≤ y) (y1 : y ≤ 1000)
    (hown : wr.ownsRow w.heap.size 28 2 s5 k (rs l)) (ho1 : Ok w1 g) (hc1 : Ch g wr w1) (hb : Ch g w wr) (hbase : w.heap.size ≤ wr.heap.size) (o : Obj)
    (hown2 : w2.ownsRow w.heap.size 28 2 v' (k + 1) (rs (l ++ [(t, y)]))) (hgr : (w1.alloc o).grownBy w2 s5.ownBlock) :
    RI N g w.heap.size w v' (.int .i64 t) (.int .i64 ((N : Int) - (k : Int) - 1)) w2 := by
  have hrow : ∀ b, s5.ownBlock = some b → w.heap.size ≤ b := fun b e => (hown.lt b e).1
  refine ⟨k + 1, l ++ [(t, y)], t, _, _, _, rfl, rfl, by omega, rfl, by omega, rfl, hown2, by simp [hL], vrs_snoc hv _ _ ⟨t0, t1, y0, y1⟩, t0, t1, ?_, ?_, ?_⟩
  · exact ok_grown (ho1.bel (Bel.rf.al _)) hgr (fun b e => by have := hrow b e; omega)
  · exact ch_grown ((hb.tr hc1).al _) hgr hrow
  · have := hgr.size
    have := hc1.sz
    simp at *
    omega
set_option maxHeartbeats 8000000 in
set_option maxRecDepth 100000 in
theorem readings_new (g m : Nat) (hm : m ≤ 40) (w : World) (h : Ok w g) : Calls Try.prog 9 #[.pointer (some ⟨g, 0, none⟩), .int .i64 (m : Int)] w (SomeRds g m w) := by
  have HO1 := Lib.hid h
  have HGB := Lib.hid h.lt
  have mi : (m : Int) ≤ 40 := by omega
  clear h
  go_enter Try.func9, Try.ntmps9
  go_wp2_with fail
  go_at_call 18
  refine (pick_any g w.heap.size [0, 5, 1000, 1099511627576] 4 (by rfl) (by decide) (by decide) (by have := HGB.out; omega) _ (HO1.out.bel (Bel.rf.al _)) (lst_new _ _ _ _ (by rfl) _ rfl)).mono ?_
  rintro e w1 ⟨t, rfl, ht, ho, hc⟩
  have t0 : 0 ≤ t ∧ t ≤ 1099511627576 := by simp at ht; omega
  have HO2 := Lib.hid ho
  have HC2 : Hid (Ch g w w1) := (Ch.rf.al _).tr hc
  clear ho hc ht
  go_wp2_with fail
  go_at_call 19
  refine (n_any g ((m : Int) + 1) (by omega) (by omega) _ HO2.out).mono ?_
  rintro e w2 ⟨nn, rfl, n0, n1, ho, hc⟩
  obtain ⟨N, rfl⟩ := Int.eq_ofNat_of_zero_le n0
  have HO3 := Lib.hid ho
  have HC3 : Hid (Ch g w w2) := HC2.out.tr hc
  clear ho hc
  have HNM : Hid (N ≤ m) := (by omega : N ≤ m)
  have HR0 : Hid (RI N g w.heap.size w (.slice none 0 0) (.int .i64 t) (.int .i64 (N : Int)) w2) :=
    ⟨0, [], t, _, _, _, rfl, rfl, by omega, rfl, by omega, rfl, World.ownsRow_nil _ _ _ _, rfl, vrs_nil, by omega, by omega, HO3.out, HC3.out, HC3.out.sz⟩
  go_wp2
  go_loopw [5, 6, 7] (fun s5 s6 s7 wr => RI N g w.heap.size w s5 s6 s7 wr) (fun _ _ s7 _ => (intOf s7).toNat)
  case atStart => exact HR0.out
  case round =>
    clear HR0
    obtain ⟨k, l, a, i, wr, u5, hwr, hu5, hk, rfl, hi, rfl, hown, hL, hv, a0, a1, hog, hcw, hbase⟩ := hrel
    subst hwr hu5
    have HO := Lib.hid hown
    have HL := Lib.hid hL
    have HV := Lib.hid hv
    have HG := Lib.hid hog
    have HCW := Lib.hid hcw
    have HI := Lib.hid hi
    have ki : (k : Int) ≤ 40 := by omega
    clear hown hL hv hog hcw
    rcases Nat.lt_or_ge k N with hlt | hge
    · have i0 : 0 < i := by omega
      have i1 : i ≤ 40 := by omega
      clear hi
      go_wp2_with fail
      go_at_call 18
      refine (pick_any g wr.heap.size [0, 1, 1, 3, 10, -2] 6 (by rfl) (by decide) (by decide) (by have := HG.out.lt; omega) _ (HG.out.bel (Bel.rf.al _)) (lst_new _ _ _ _ (by rfl) _ rfl)).mono ?_
      rintro e w6 ⟨d, rfl, hd, ho, hc⟩
      have d0 : -2 ≤ d ∧ d ≤ 10 := by simp at hd; omega
      have HG6 := Lib.hid ho
      have HC6 : Hid (Ch g wr w6) := (Ch.rf.al _).tr hc
      obtain ⟨S, hS⟩ : ∃ S, a + d = S := ⟨_, rfl⟩
      have wS : wrap64 S = S := IntWalk.wrap64_in _ (by omega)
      have S0 : -2 ≤ S ∧ S ≤ 1099511627786 := by omega
      obtain ⟨S0, S1⟩ := S0
      clear ho hc hd
      rcases (show 1099511627776 ≤ S ∨ S ≤ 0 ∨ (0 < S ∧ S < 1099511627776) by omega) with q1 | q1 | ⟨q1, q2⟩
      · have q3 : ¬ S < 1099511627776 := by omega
        have q5 : min (1099511627776 : Int) S = 1099511627776 := by omega
        go_wp2_with fail
        go_at_call 20
        refine (range_any g (-30) 30 (by decide) (by decide) (by decide) _ HG6.out).mono ?_
        rintro e w7 ⟨y, rfl, y0, y1, ho, hc⟩
        have HG7 := Lib.hid ho
        have HC7 : Hid (Ch g wr w7) := HC6.out.tr hc
        clear ho hc
        go_wp2_with fail
        go_at_call 18
        refine (pick_any g w7.heap.size [1, 1, 33] 3 (by rfl) (by decide) (by decide) (by have := HG7.out.lt; omega) _ (HG7.out.bel (Bel.rf.al _)) (lst_new _ _ _ _ (by rfl) _ rfl)).mono ?_
        rintro e w8 ⟨f, rfl, hf, ho, hc⟩
        have HG8 := Lib.hid ho
        have HC8 : Hid (Ch g wr w8) := (HC7.out.al _).tr hc
        obtain ⟨z, hz⟩ : ∃ z, y * f = z := ⟨_, rfl⟩
        have hz0 : -1000 ≤ z ∧ z ≤ 1000 := by
          simp at hf
          rcases hf with rfl | rfl <;> omega
        obtain ⟨z0, z1⟩ := hz0
        have wz : wrap64 z = z := IntWalk.wrap64_in _ (by omega)
        clear ho hc hf
        have hown1 := HO.out.kept (HC8.out) (by
          rcases hob : u5.ownBlock with _ | q
          · exact .inl rfl
          · exact .inr (fun e => by injection e with e; have := (HO.out.lt q hob).1; have := HGB.out; omega))
        have hsz := Ch.sz (HC8.out)
        have HOW := Lib.hid hown1
        clear hown1
        go_wp2_with (at_builtin; refine list_appr _ rfl (.tmp 26) (.tmp 35) rfl w.heap.size u5 k l rfl (own_bel HOW.out (Bel.rf.al _)) w8.heap.size 1 (1099511627776, z) rfl (Bk.nw _ _ _) (by omega) (by simp; omega) ?_; intro v' w9 h9 hg9 hat9)
        have hstep := ri_step (N := N) (t := 1099511627776) (y := z) HGB.out hlt HL.out HV.out (by omega) (by omega) z0 z1 HO.out (HG8.out) (HC8.out) HCW.out hbase _ h9 hg9
        rw [← HI.out] at hstep
        have HST := Lib.hid hstep
        clear hstep h9 hg9 hat9
        go_wp2
        go_roundw
        case rel => exact HST.out
        case measure => simp [intOf]; omega
      · have q3 : S < 1099511627776 := by omega
        have q4 : ¬ 0 < S := by omega
        have q5 : min (1099511627776 : Int) S = S := by omega
        have q6 : max 0 S = 0 := by omega
        go_wp2_with fail
        go_at_call 20
        refine (range_any g (-30) 30 (by decide) (by decide) (by decide) _ HG6.out).mono ?_
        rintro e w7 ⟨y, rfl, y0, y1, ho, hc⟩
        have HG7 := Lib.hid ho
        have HC7 : Hid (Ch g wr w7) := HC6.out.tr hc
        clear ho hc
        go_wp2_with fail
        go_at_call 18
        refine (pick_any g w7.heap.size [1, 1, 33] 3 (by rfl) (by decide) (by decide) (by have := HG7.out.lt; omega) _ (HG7.out.bel (Bel.rf.al _)) (lst_new _ _ _ _ (by rfl) _ rfl)).mono ?_
        rintro e w8 ⟨f, rfl, hf, ho, hc⟩
        have HG8 := Lib.hid ho
        have HC8 : Hid (Ch g wr w8) := (HC7.out.al _).tr hc
        obtain ⟨z, hz⟩ : ∃ z, y * f = z := ⟨_, rfl⟩
        have hz0 : -1000 ≤ z ∧ z ≤ 1000 := by
          simp at hf
          rcases hf with rfl | rfl <;> omega
        obtain ⟨z0, z1⟩ := hz0
        have wz : wrap64 z = z := IntWalk.wrap64_in _ (by omega)
        clear ho hc hf
        have hown1 := HO.out.kept (HC8.out) (by
          rcases hob : u5.ownBlock with _ | q
          · exact .inl rfl
          · exact .inr (fun e => by injection e with e; have := (HO.out.lt q hob).1; have := HGB.out; omega))
        have hsz := Ch.sz (HC8.out)
        have HOW := Lib.hid hown1
        clear hown1
        go_wp2_with (at_builtin; refine list_appr _ rfl (.tmp 26) (.tmp 35) rfl w.heap.size u5 k l rfl (own_bel HOW.out (Bel.rf.al _)) w8.heap.size 1 (0, z) rfl (Bk.nw _ _ _) (by omega) (by simp; omega) ?_; intro v' w9 h9 hg9 hat9)
        have hstep := ri_step (N := N) (t := 0) (y := z) HGB.out hlt HL.out HV.out (by omega) (by omega) z0 z1 HO.out (HG8.out) (HC8.out) HCW.out hbase _ h9 hg9
        rw [← HI.out] at hstep
        have HST := Lib.hid hstep
        clear hstep h9 hg9 hat9
        go_wp2
        go_roundw
        case rel => exact HST.out
        case measure => simp [intOf]; omega
      · have q3 : 0 < S := q1
        have q5 : min (1099511627776 : Int) S = S := by omega
        have q6 : max 0 S = S := by omega
        have q7 : ¬ 1099511627776 < S := by omega
        go_wp2_with fail
        go_at_call 20
        refine (range_any g (-30) 30 (by decide) (by decide) (by decide) _ HG6.out).mono ?_
        rintro e w7 ⟨y, rfl, y0, y1, ho, hc⟩
        have HG7 := Lib.hid ho
        have HC7 : Hid (Ch g wr w7) := HC6.out.tr hc
        clear ho hc
        go_wp2_with fail
        go_at_call 18
        refine (pick_any g w7.heap.size [1, 1, 33] 3 (by rfl) (by decide) (by decide) (by have := HG7.out.lt; omega) _ (HG7.out.bel (Bel.rf.al _)) (lst_new _ _ _ _ (by rfl) _ rfl)).mono ?_
        rintro e w8 ⟨f, rfl, hf, ho, hc⟩
        have HG8 := Lib.hid ho
        have HC8 : Hid (Ch g wr w8) := (HC7.out.al _).tr hc
        obtain ⟨z, hz⟩ : ∃ z, y * f = z := ⟨_, rfl⟩
        have hz0 : -1000 ≤ z ∧ z ≤ 1000 := by
          simp at hf
          rcases hf with rfl | rfl <;> omega
        obtain ⟨z0, z1⟩ := hz0
        have wz : wrap64 z = z := IntWalk.wrap64_in _ (by omega)
        clear ho hc hf
        have hown1 := HO.out.kept (HC8.out) (by
          rcases hob : u5.ownBlock with _ | q
          · exact .inl rfl
          · exact .inr (fun e => by injection e with e; have := (HO.out.lt q hob).1; have := HGB.out; omega))
        have hsz := Ch.sz (HC8.out)
        have HOW := Lib.hid hown1
        clear hown1
        go_wp2_with (at_builtin; refine list_appr _ rfl (.tmp 26) (.tmp 35) rfl w.heap.size u5 k l rfl (own_bel HOW.out (Bel.rf.al _)) w8.heap.size 1 (S, z) rfl (Bk.nw _ _ _) (by omega) (by simp; omega) ?_; intro v' w9 h9 hg9 hat9)
        have hstep := ri_step (N := N) (t := S) (y := z) HGB.out hlt HL.out HV.out (by omega) (by omega) z0 z1 HO.out (HG8.out) (HC8.out) HCW.out hbase _ h9 hg9
        rw [← HI.out] at hstep
        have HST := Lib.hid hstep
        clear hstep h9 hg9 hat9
        go_wp2
        go_roundw
        case rel => exact HST.out
        case measure => simp [intOf]; omega
    · have i0 : i = 0 := by omega
      subst i0
      clear hi
      go_wp2
      go_ret
      exact ⟨_, k, l, rfl, HO.out, HL.out, by have := HNM.out; omega, HV.out, HG.out, HCW.out⟩
end Go.Proofs.Ytgcjangnlbhicaa.Rg
