/- keep.Ascending: a new row of readings whose times ascend. -/
import Derived.Test.YtdkibffbaamkkaaRds
namespace Go.Proofs.Ytdkibffbaamkkaa.Rg
open Go.ChangeShapes Go.WideShapes Go.RowKit Wo Sr Wi Rm
set_option linter.unusedVariables false
theorem snoc_tm (l : List Rp) (p : Rp) (i : Nat) : tm (l ++ [p]) i = if i < l.length then tm l i else if i = l.length then p.1 else 0 := by
  unfold tm
  rw [List.getD_eq_getElem?_getD, List.getD_eq_getElem?_getD, List.getElem?_append]
  split
  · rfl
  · split
    · rename_i h; subst h; simp
    · rw [List.getElem?_eq_none (by simp; omega)]; rfl
theorem snoc_vl (l : List Rp) (p : Rp) (i : Nat) : vl (l ++ [p]) i = if i < l.length then vl l i else if i = l.length then p.2 else 0 := by
  unfold vl
  rw [List.getD_eq_getElem?_getD, List.getD_eq_getElem?_getD, List.getElem?_append]
  split
  · rfl
  · split
    · rename_i h; subst h; simp
    · rw [List.getElem?_eq_none (by simp; omega)]; rfl
theorem asc_snoc {l : List Rp} (h : Asc l) (a b : Int) (ha : ∀ i, i < l.length → tm l i < a) (a0 : 0 ≤ a) (a1 : a ≤ 1099511627776) (b0 : -1000 ≤ b) (b1 : b ≤ 1000) : Asc (l ++ [(a, b)]) := by
  have hl : (l ++ [(a, b)]).length = l.length + 1 := by simp
  refine ⟨fun i hi => ?_, fun i hi => ?_⟩
  · rw [hl] at hi
    rw [snoc_tm, snoc_vl]
    by_cases h2 : i < l.length
    · rw [if_pos h2, if_pos h2]; exact h.1 i h2
    · rw [if_neg h2, if_neg h2, if_pos (by omega), if_pos (by omega)]; exact ⟨a0, a1, b0, b1⟩
  · rw [hl] at hi
    rw [snoc_tm, snoc_tm, if_pos (by omega)]
    by_cases h2 : i + 1 < l.length
    · rw [if_pos h2]; exact h.2 i h2
    · rw [if_neg h2, if_pos (by omega)]; exact ha i (by omega)
theorem asc_nil : Asc [] := ⟨fun i hi => by simp at hi, fun i hi => by simp at hi⟩
/-- a new row of readings that ascend -/
def SomeAsc (g m : Nat) (w : World) (e : Ending) (w' : World) : Prop := ∃ (v : Value) (k : Nat) (l : List Rp), e = .returned v ∧ w'.ownsRow w.heap.size 40 2 v k (rs l) ∧ l.length = k ∧ k ≤ m ∧ Asc l ∧ (0 < k → tm l 0 ≤ 1099511627488) ∧ Ok w' g ∧ Ch g w w'
def AI (N : Nat) (g base : Nat) (w : World) (s5 s6 s7 : Value) (wr : World) : Prop := ∃ (k : Nat) (l : List Rp) (t i : Int) (V : World) (u : Value), V = wr ∧ u = s5 ∧ k ≤ N ∧ s7 = .int .i64 i ∧ i = (N : Int) - (k : Int) ∧ s6 = .int .i64 t ∧
  wr.ownsRow base 40 2 s5 k (rs l) ∧ l.length = k ∧ Asc l ∧ (∀ i, i < k → tm l i ≤ t) ∧ 0 ≤ t ∧ t ≤ 1099511627476 + 12 * (k : Int) ∧ (0 < k → tm l 0 ≤ 1099511627488) ∧ Ok wr g ∧ Ch g w wr ∧ base ≤ wr.heap.size
theorem ai_step {N g k : Nat} {w wr w1 w2 : World} {s5 v' : Value} {l : List Rp} {t x y : Int} (hgb : g < w.heap.size) (hk : k < N) (hN : N ≤ 25) (hL : l.length = k) (hv : Asc l) (hle : ∀ i, i < k → tm l i ≤ t) (t0 : 0 ≤ t) (t1 : t ≤ 1099511627476 + 12 * (k : Int)) (hf : 0 < k → tm l 0 ≤ 1099511627488) (x0 : 1 ≤ x) (x1 : x ≤ 12) (y0 : -1000 ≤ y) (y1 : y ≤ 1000)
    (hown : wr.ownsRow w.heap.size 40 2 s5 k (rs l)) (ho1 : Ok w1 g) (hc1 : Ch g wr w1) (hb : Ch g w wr) (hbase : w.heap.size ≤ wr.heap.size) (o : Obj)
    (hown2 : w2.ownsRow w.heap.size 40 2 v' (k + 1) (rs (l ++ [(t + x, y)]))) (hgr : (w1.alloc o).grownBy w2 s5.ownBlock) :
    AI N g w.heap.size w v' (.int .i64 (t + x)) (.int .i64 ((N : Int) - (k : Int) - 1)) w2 := by
  have hrow : ∀ b, s5.ownBlock = some b → w.heap.size ≤ b := fun b e => (hown.lt b e).1
  refine ⟨k + 1, l ++ [(t + x, y)], t + x, _, _, _, rfl, rfl, by omega, rfl, by omega, rfl, hown2, by simp [hL], asc_snoc hv _ _ (fun i hi => by have := hle i (by omega); omega) (by omega) (by omega) y0 y1, fun i hi => ?_, by omega, by omega, fun _ => ?_, ?_, ?_, ?_⟩
  · rw [snoc_tm]
    by_cases h2 : i < l.length
    · rw [if_pos h2]; have := hle i (by omega); omega
    · rw [if_neg h2, if_pos (by omega)]; exact Int.le_refl _
  · rw [snoc_tm]
    by_cases h2 : 0 < l.length
    · rw [if_pos h2]; exact hf (by omega)
    · rw [if_neg h2, if_pos (by omega)]; show t + x ≤ _; omega
  · exact ok_grown (ho1.bel (Bel.rf.al _)) hgr (fun b e => by have := hrow b e; omega)
  · exact ch_grown ((hb.tr hc1).al _) hgr hrow
  · have := hgr.size
    have := hc1.sz
    simp at *
    omega
set_option maxHeartbeats 4000000 in
theorem ascending_any (g m : Nat) (hm : m ≤ 25) (w : World) (h : Ok w g) : Calls Try.prog 20 #[.pointer (some ⟨g, 0, none⟩), .int .i64 (m : Int)] w (SomeAsc g m w) := by
  have HO1 := Lib.hid h
  have HGB := Lib.hid h.lt
  have mi : (m : Int) ≤ 25 := by omega
  clear h
  go_enter Try.func20, Try.ntmps20
  go_wp2_with fail
  go_at_call 27
  refine (pick_any g w.heap.size [0, 0, 7, 1099511627476] 4 (by rfl) (by decide) (by decide) (by have := HGB.out; omega) _ (HO1.out.bel (Bel.rf.al _)) (lst_new _ _ _ _ (by rfl) _ rfl)).mono ?_
  rintro e w1 ⟨t, rfl, ht, ho, hc⟩
  have t0 : 0 ≤ t ∧ t ≤ 1099511627476 := by simp at ht; omega
  have HO2 := Lib.hid ho
  have HC2 : Hid (Ch g w w1) := (Ch.rf.al _).tr hc
  clear ho hc ht
  go_wp2_with fail
  go_at_call 28
  refine (n_any g ((m : Int) + 1) (by omega) (by omega) _ HO2.out).mono ?_
  rintro e w2 ⟨nn, rfl, n0, n1, ho, hc⟩
  obtain ⟨N, rfl⟩ := Int.eq_ofNat_of_zero_le n0
  have HO3 := Lib.hid ho
  have HC3 : Hid (Ch g w w2) := HC2.out.tr hc
  clear ho hc
  have HNM : Hid (N ≤ m) := (by omega : N ≤ m)
  have HR0 : Hid (AI N g w.heap.size w (.slice none 0 0) (.int .i64 t) (.int .i64 (N : Int)) w2) :=
    ⟨0, [], t, _, _, _, rfl, rfl, by omega, rfl, by omega, rfl, World.ownsRow_nil _ _ _ _, rfl, asc_nil, fun i hi => by omega, by omega, by omega, fun h => by omega, HO3.out, HC3.out, HC3.out.sz⟩
  go_wp2
  go_loopw [5, 6, 7] (fun s5 s6 s7 wr => AI N g w.heap.size w s5 s6 s7 wr) (fun _ _ s7 _ => (intOf s7).toNat)
  case atStart => exact HR0.out
  case round =>
    clear HR0
    obtain ⟨k, l, a, i, wr, u5, hwr, hu5, hk, rfl, hi, rfl, hown, hL, hv, hle, a0, a1, hf0, hog, hcw, hbase⟩ := hrel
    subst hwr hu5
    have HO := Lib.hid hown
    have HL := Lib.hid hL
    have HV := Lib.hid (And.intro hv hle)
    have HG := Lib.hid hog
    have HCW := Lib.hid hcw
    have HI := Lib.hid hi
    have HF0 := Lib.hid hf0
    have ki : (k : Int) ≤ 25 := by omega
    clear hown hL hv hle hog hcw hf0
    rcases Nat.lt_or_ge k N with hlt | hge
    · have i0 : 0 < i := by omega
      have i1 : i ≤ 25 := by omega
      clear hi
      go_wp2_with fail
      go_at_call 29
      refine (range_any g 1 12 (by decide) (by decide) (by decide) _ HG.out).mono ?_
      rintro e w6 ⟨x, rfl, x0, x1, ho, hc⟩
      have HG6 := Lib.hid ho
      have HC6 : Hid (Ch g wr w6) := hc
      clear ho hc
      go_wp2_with fail
      go_at_call 29
      refine (range_any g (-30) 30 (by decide) (by decide) (by decide) _ HG6.out).mono ?_
      rintro e w7 ⟨y, rfl, y0, y1, ho, hc⟩
      have HG7 := Lib.hid ho
      have HC7 : Hid (Ch g wr w7) := HC6.out.tr hc
      clear ho hc
      go_wp2_with fail
      go_at_call 27
      refine (pick_any g w7.heap.size [1, 1, 33] 3 (by rfl) (by decide) (by decide) (by have := HG7.out.lt; omega) _ (HG7.out.bel (Bel.rf.al _)) (lst_new _ _ _ _ (by rfl) _ rfl)).mono ?_
      rintro e w8 ⟨f, rfl, hf, ho, hc⟩
      have HG8 := Lib.hid ho
      have HC8 : Hid (Ch g wr w8) := (HC7.out.al _).tr hc
      obtain ⟨z, hz⟩ : ∃ z, y * f = z := ⟨_, rfl⟩
      have hz0 : -1000 ≤ z ∧ z ≤ 1000 := by
        simp at hf
        rcases hf with rfl | rfl <;> omega
      obtain ⟨z0, z1⟩ := hz0
      have wz : wrap64 z = z := IntWalk.wrap64_in _ (by omega)
      clear ho hc hf
      have hown1 := HO.out.kept (HC8.out) (by
        rcases hob : u5.ownBlock with _ | q
        · exact .inl rfl
        · exact .inr (fun e => by injection e with e; have := (HO.out.lt q hob).1; have := HGB.out; omega))
      have hsz := Ch.sz (HC8.out)
      have HOW := Lib.hid hown1
      clear hown1
      go_wp2_with (at_builtin; refine list_appr _ rfl (.tmp 23) (.tmp 32) rfl w.heap.size u5 k l rfl (own_bel HOW.out (Bel.rf.al _)) w8.heap.size 1 (a + x, z) rfl (Bk.nw _ _ _) (by omega) (by simp; omega) ?_; intro v' w9 h9 hg9 hat9)
      have hstep := ai_step (x := x) (y := z) HGB.out hlt (by have := HNM.out; omega) HL.out HV.out.1 HV.out.2 a0 a1 HF0.out x0 x1 z0 z1 HO.out (HG8.out) (HC8.out) HCW.out hbase _ h9 hg9
      rw [← HI.out] at hstep
      have HST := Lib.hid hstep
      clear hstep h9 hg9 hat9
      go_wp2
      go_roundw
      case rel => exact HST.out
      case measure => simp [intOf]; omega
    · have i0 : i = 0 := by omega
      subst i0
      clear hi
      go_wp2
      go_ret
      exact ⟨_, k, l, rfl, HO.out, HL.out, by have := HNM.out; omega, HV.out.1, HF0.out, HG.out, HCW.out⟩
end Go.Proofs.Ytdkibffbaamkkaa.Rg
