/- segment.Summary of a segment; the statements' samples; their example. -/
import Derived.Test.YtaplbkfmedofcaaSgX
namespace Go.Proofs.Ytaplbkfmedofcaa.Sg
open Go.ChangeShapes Go.WideShapes Go.RowKit Wo Bm By Cd Pk Cr
open Wi (Zi zi_bk)
open Sr (zs zs_at zs_len Ok Ch)
set_option linter.unusedVariables false
theorem Bk.eqc {w : World} {g : Nat} {t : TypeId} {cs ds : Array Value} (h : Bk w g t cs) (e : cs = ds) : Bk w g t ds := e ▸ h
set_option maxHeartbeats 2000000 in
set_option maxRecDepth 100000 in
theorem sum_ok (A : Option Addr) (c M : Nat) (x : List Int) (hv : Vx x) (hM : M ≤ 1000000) (hc : M ≤ c) (hcm : c ≤ maxLen) (w : World) (hr : Rd w A M (seg x)) :
    Calls Try.prog 13 #[.slice A M c] w fun e w' => e = .returned (.tuple #[hdv (kd x) x.length (mn x) (mx x) x.sum, .int .i64 0]) ∧ Bel w w' := by
  have HD := Lib.hid (fun W (hb : Bel w W) => dec_any A c M (seg x) hM hc hcm W (hr.bel hb))
  have HV := Lib.hid hv
  obtain ⟨n, hn⟩ : ∃ n, x.length = n := ⟨_, rfl⟩
  have hn1 : 1 ≤ n ∧ n ≤ 64 := by have := hv.1; have := hv.2.1; omega
  have HN := Lib.hid hn
  have HBE : Hid (∀ (g c2 : Nat) W, Zi W (some ⟨g, 0, none⟩) n x → Calls Try.prog 29 #[.slice (some ⟨g, 0, none⟩) n c2] W fun e w' => (∃ (A : Option Addr) (N c : Nat), e = .returned (.tuple #[.agg #[.int .i64 (kd x : Int), .int .i64 (n : Int), .int .i64 (mn x), .int .i64 (mx x), .int .i64 x.sum], .slice A N c])) ∧ Bel W w') := fun g c2 W hz => by
    refine (best_ok g 0 c2 n x hv hn W hz).mono ?_
    rintro e w' ⟨A, N, c, he, _, _, _, hb⟩
    unfold hdv at he
    rw [hn] at he
    exact ⟨⟨A, N, c, he⟩, hb⟩
  rw [hn]
  clear hr hv hn
  go_enter Try.func13, Try.ntmps13
  go_wp2_with fail
  go_at_call 12
  refine (HD.out _ (by repeat (first | exact Bel.rf | (with_reducible refine Bel.drwN ?_ _) | (with_reducible refine Bel.drw ?_) | (with_reducible refine Bel.al ?_ _)))).mono ?_
  rintro e w1 ⟨A1, n1, c1, L, er, rfl, hz, h1, h2, h3, h4, h5, hb1, _, _, hx⟩
  obtain ⟨her, hLx⟩ := hx x HV.out rfl
  have hxl := hLx.symm
  subst her hxl
  obtain rfl : n1 = n := by have := hz.1; have := HN.out; omega
  obtain ⟨ad, rfl, _⟩ := hz.2 (by omega)
  obtain ⟨g, rfl, hg⟩ := h5 ad rfl
  have HZ := Lib.hid hz
  have hbk : Bk w1 w.heap.size 34 (hcs 0 0 0 0 0) := (show Bk (w.alloc (.cells (hcs 0 0 0 0 0) 34)) w.heap.size 34 (hcs 0 0 0 0 0) from Bk.nw _ _ _).bel (by first | exact hb1 | exact (Bel.rf.drwN _).tr hb1)
  have HB0 := Lib.hid hbk
  have HB1 : Hid (Bel w w1) := by first | exact (Bel.rf.al _).tr hb1 | exact ((Bel.rf.al _).drwN _).tr hb1
  clear hz hb1 hbk hx h4 h5
  go_upto_region 5 with (go_at_call 29; refine (HBE.out _ _ _ HZ.out).mono ?_; rintro e w2 ⟨⟨A2, N2, c2, rfl⟩, hb2⟩; have HB0' := Lib.hid (HB0.out.bel hb2); have HB2 : Hid (Bel w w2) := HB1.out.tr hb2; clear hb2)
  obtain ⟨m, hm⟩ : ∃ m, mn x = m := ⟨_, rfl⟩
  obtain ⟨M', hM'⟩ : ∃ m, mx x = m := ⟨_, rfl⟩
  obtain ⟨s, hs⟩ : ∃ m, x.sum = m := ⟨_, rfl⟩
  rw [hm, hM', hs]
  obtain ⟨W3, hW3⟩ : ∃ W3, w2.alloc (.cells #[.int .i64 (kd x : Int), .int .i64 (n1 : Int), .int .i64 m, .int .i64 M', .int .i64 s] 34) = W3 := ⟨_, rfl⟩
  rw [hW3]
  have HB3 : Hid (Bel w W3) := by rw [← hW3]; exact HB2.out.al _
  have hb9 : Bk W3 w.heap.size 34 (hcs 0 0 0 0 0) := by rw [← hW3]; exact HB0'.out.al _
  have hb8 : Bk W3 w2.heap.size 34 (hcs (kd x : Int) (n1 : Int) m M' s) := by rw [← hW3]; exact Bk.nw _ _ _
  have d0 := hb9.cell 0
  have d1 := hb9.cell 1
  have d2 := hb9.cell 2
  have d3 := hb9.cell 3
  have d4 := hb9.cell 4
  have y0 := hb9.fr 0
  have y1 := hb9.fr 1
  have y2 := hb9.fr 2
  have y3 := hb9.fr 3
  have y4 := hb9.fr 4
  have v0 := hb8.cell 0
  have v1 := hb8.cell 1
  have v2 := hb8.cell 2
  have v3 := hb8.cell 3
  have v4 := hb8.cell 4
  simp only [hcs, List.getElem?_toArray, List.getElem?_cons_zero, List.getElem?_cons_succ] at d0 d1 d2 d3 d4 v0 v1 v2 v3 v4
  have HB9 := Lib.hid hb9
  have HMS := Lib.hid (And.intro hm (And.intro hM' hs))
  clear hb9 hb8 hm hM' hs hW3
  go_wp2
  refine bodyPost_ret (v := .tuple #[hdv (kd x : Int) (n1 : Int) m M' s, .int .i64 0]) (results_h Try.results13 _ _ w.heap.size (kd x : Int) (n1 : Int) m M' s rfl (((((HB9.out.st 0 (.int .i64 (kd x : Int))).st 1 (.int .i64 (n1 : Int))).st 2 (.int .i64 m)).st 3 (.int .i64 M')).st 4 (.int .i64 s))) rfl ?_
  exact ⟨by rw [HMS.out.1, HMS.out.2.1, HMS.out.2.2], ((((HB3.out.st (Nat.le_refl _) _).st (Nat.le_refl _) _).st (Nat.le_refl _) _).st (Nat.le_refl _) _).st (Nat.le_refl _) _⟩
end Go.Proofs.Ytaplbkfmedofcaa.Sg
