/- keep.Scheme. -/
import Derived.Test.YtgdhgeongdenpaaWd6
namespace Go.Proofs.Ytgdhgeongdenpaa.Wd
open Go.ChangeShapes Go.WideShapes Go.RowKit Wo Sr Wi Ms
set_option linter.unusedVariables false
set_option linter.unusedSimpArgs false
theorem results_s {fn : Func} {p : Tmp} (h : fn.results = #[.cell p 28]) (tmps : Array Value) (w : World) (g : Nat) (a b c d e f : Value)
    (hp : tmps.getD p undef = .pointer (some ⟨g, 0, none⟩)) (hg : Bk w g 28 #[a, b, c, d, e, f]) : (results fn tmps).run Try.prog w = .ok (.agg #[a, b, c, d, e, f]) w := by
  have hp' : tmps[p]?.getD undef = .pointer (some ⟨g, 0, none⟩) := by simpa using hp
  have hl := run_loadVar_row (P := Try.prog) w g 28 28 #[a, b, c, d, e, f] (0, 0) _ hg Try.underlying28 rfl (by kernel_rfl)
  simp [results, h, hp', asAddr, hl]
theorem own_lowd {w : World} {base base' size n : Nat} {e : TypeId} {v : Value} {xs : List Value} (h : w.ownsRow base e size v n xs) (hb : base' ≤ base) : w.ownsRow base' e size v n xs :=
  ⟨h.1, h.2.imp id fun ⟨g, c, cur, h1, h2, h3⟩ => ⟨g, c, cur, h1, Nat.le_trans hb h2, h3⟩⟩
/-- a new scheme -/
def SomeSx (q : Nat) (w : World) (e : Ending) (w' : World) : Prop := ∃ k b g m n A nc cc C, e = .returned (Sx k b g m n A nc cc) ∧ Sv k b g m n C ∧ w'.ownsRow w.heap.size 3 1 (.slice A nc cc) nc (zs C) ∧ C.length = nc ∧ Ok w' q ∧ Ch q w w'
set_option maxHeartbeats 8000000 in
set_option maxRecDepth 100000 in
theorem scheme_any (q : Nat) (w : World) (h : Ok w q) : Calls Try.prog 11 #[.pointer (some ⟨q, 0, none⟩)] w (SomeSx q w) := by
  have HGB := Lib.hid h.lt
  have HO0 := Lib.hid h
  clear h
  go_enter Try.func11, Try.ntmps11
  go_wp2_with fail
  go_at_call 37
  refine (measure_any q _ (HO0.out.bel (by repeat (first | exact Bel.rf | (with_reducible refine Bel.drwN ?_ _) | (with_reducible refine Bel.drw ?_) | (with_reducible refine Bel.al ?_ _))))).mono ?_
  rintro e w1 ⟨k, b, g, rfl, hmv, ho, hc⟩
  have HO1 := Lib.hid ho
  have HC1 : Hid (Ch q w w1) := (Ch.of_bel (by repeat (first | exact Bel.rf | (with_reducible refine Bel.drwN ?_ _) | (with_reducible refine Bel.drw ?_) | (with_reducible refine Bel.al ?_ _)))).tr hc
  have HR1 : Hid (Bk w1 w.heap.size 28 #[.int .i64 0, .int .i64 0, .int .i64 0, .int .i64 0, .int .i64 0, .slice none 0 0]) := hc.bk (Bk.nw _ _ _) (by have := HGB.out; omega)
  have HMV := Lib.hid hmv
  clear ho hc hmv
  go_wp2_with fail
  go_at_call 38
  refine (length_any q _ (HO1.out.bel (by repeat (first | exact Bel.rf | (with_reducible refine Bel.drwN ?_ _) | (with_reducible refine Bel.drw ?_) | (with_reducible refine Bel.al ?_ _))))).mono ?_
  rintro e w2 ⟨M, rfl, m2, m32, ho, hc⟩
  obtain ⟨m, rfl⟩ := Int.eq_ofNat_of_zero_le (show 0 ≤ M by omega)
  have HO2 := Lib.hid ho
  have hc12 : Ch q w1 w2 := (Ch.of_bel (by repeat (first | exact Bel.rf | (with_reducible refine Bel.drwN ?_ _) | (with_reducible refine Bel.drw ?_) | (with_reducible refine Bel.al ?_ _)))).tr hc
  have HC2 : Hid (Ch q w w2) := HC1.out.tr hc12
  have HR2 : Hid (Bk w2 w.heap.size 28 #[.int .i64 0, .int .i64 0, .int .i64 0, .int .i64 0, .int .i64 0, .slice none 0 0]) := hc12.bk HR1.out (by have := HGB.out; omega)
  obtain ⟨Z, hZ⟩ : ∃ Z, min (8 : Int) (m : Int) = Z := ⟨_, rfl⟩
  have Z1 : 1 ≤ Z := by omega
  have Z8 : Z ≤ 8 := by omega
  have Zm : Z ≤ (m : Int) := by omega
  have HZZ := Lib.hid hZ
  have hZ2 : (if (m : Int) < 8 then (m : Int) else 8) = Z := by rw [← hZ]; split <;> omega
  have hZ3 : (if (8 : Int) ≤ (m : Int) then (8 : Int) else (m : Int)) = Z := by rw [← hZ]; split <;> omega
  clear ho hc hc12
  go_wp2_with fail
  go_at_call 28
  refine (range_any q 1 Z (by decide) (by omega) (by omega) _ (HO2.out.bel (by repeat (first | exact Bel.rf | (with_reducible refine Bel.drwN ?_ _) | (with_reducible refine Bel.drw ?_) | (with_reducible refine Bel.al ?_ _))))).mono ?_
  rintro e w3 ⟨N, rfl, n1, n8, ho, hc⟩
  obtain ⟨n, rfl⟩ := Int.eq_ofNat_of_zero_le (show 0 ≤ N by omega)
  have HO3 := Lib.hid ho
  have HC3 : Hid (Ch q w w3) := HC2.out.tr ((Ch.of_bel (by repeat (first | exact Bel.rf | (with_reducible refine Bel.drwN ?_ _) | (with_reducible refine Bel.drw ?_) | (with_reducible refine Bel.al ?_ _)))).tr hc)
  have hs2 : w.heap.size ≤ w2.heap.size := HC2.out.sz
  have HT3 : Hid (Bk w3 w2.heap.size 28 #[.int .i64 k, .int .i64 b, .int .i64 g, .int .i64 (m : Int), .int .i64 0, .slice none 0 0]) := hc.bk (Bk.nw _ _ _) (by have := HGB.out; omega)
  have HR3 : Hid (Bk w3 w.heap.size 28 #[.int .i64 0, .int .i64 0, .int .i64 0, .int .i64 0, .int .i64 0, .slice none 0 0]) := ((Ch.of_bel (by repeat (first | exact Bel.rf | (with_reducible refine Bel.drwN ?_ _) | (with_reducible refine Bel.drw ?_) | (with_reducible refine Bel.al ?_ _)))).tr hc).bk HR2.out (by have := HGB.out; omega)
  have HNE : Hid (w.heap.size < w2.heap.size) := HR2.out.lt
  have t4 := HT3.out.cell 4
  have f4 := HT3.out.fr 4
  simp only [List.getElem?_toArray, List.getElem?_cons_zero, List.getElem?_cons_succ] at t4
  have HSV : Hid (∀ C, Cv C → Sv k b g m n C) := fun C hC => ⟨HMV.out, by omega, by omega, by omega, by omega, by omega, hC⟩
  have HQ2 : Hid (q < w2.heap.size) := HO2.out.lt
  clear ho hc hZ2 hZ3
  go_wp2_with fail
  go_at_call 39
  refine (cuts_any q _ (HO3.out.st HQ2.out _)).mono ?_
  rintro e w5 ⟨v, nc, C, rfl, hown, hCl, hCv, ho, hc⟩
  have HT5 : Hid (Bk w5 w2.heap.size 28 #[.int .i64 k, .int .i64 b, .int .i64 g, .int .i64 (m : Int), .int .i64 (n : Int), .slice none 0 0]) := hc.bk (HT3.out.st 4 _) (by have := HQ2.out; omega)
  have HR5 : Hid (Bk w5 w.heap.size 28 #[.int .i64 0, .int .i64 0, .int .i64 0, .int .i64 0, .int .i64 0, .slice none 0 0]) := hc.bk (HR3.out.far (by have := HNE.out; show w.heap.size ≠ w2.heap.size; omega) _) (by have := HGB.out; omega)
  have HC5 : Hid (Ch q w w5) := (HC3.out.st2 hs2 _).tr hc
  have HO5 := Lib.hid ho
  have HS5 : Hid (w2.heap.size < (w3.setCell ⟨w2.heap.size, 4, none⟩ (.int .i64 (n : Int))).heap.size) := by have := HT3.out.lt; show _ < _; simpa [World.setCell] using this
  obtain ⟨A, cc, hv, _⟩ := own_any hown
  subst hv
  have HOW := Lib.hid hown
  have HCC := Lib.hid (And.intro hCl hCv)
  have u0 := HT5.out.cell 0
  have u1 := HT5.out.cell 1
  have u2 := HT5.out.cell 2
  have u3 := HT5.out.cell 3
  have u4 := HT5.out.cell 4
  have u5 := HT5.out.cell 5
  have g5 := HT5.out.fr 5
  have r0 := HR5.out.cell 0
  have r1 := HR5.out.cell 1
  have r2 := HR5.out.cell 2
  have r3 := HR5.out.cell 3
  have r4 := HR5.out.cell 4
  have r5 := HR5.out.cell 5
  have e0 := HR5.out.fr 0
  have e1 := HR5.out.fr 1
  have e2 := HR5.out.fr 2
  have e3 := HR5.out.fr 3
  have e4 := HR5.out.fr 4
  have e5 := HR5.out.fr 5
  simp only [List.getElem?_toArray, List.getElem?_cons_zero, List.getElem?_cons_succ] at u0 u1 u2 u3 u4 u5 r0 r1 r2 r3 r4 r5
  have l1 : w2.heap.size < w5.heap.size := HT5.out.lt
  have l2 : w.heap.size < w5.heap.size := HR5.out.lt
  have nwb : ¬ w.heap.size = w2.heap.size := by have := HNE.out; omega
  have nwb2 : ¬ w2.heap.size = w.heap.size := by have := HNE.out; omega
  clear hown hCl hCv ho hc t4 f4
  go_wp2
  have HBF : Bk (((((((w5.setCell ⟨w2.heap.size, 5, none⟩ (.slice A nc cc)).setCell ⟨w.heap.size, 0, none⟩ (.int .i64 k)).setCell ⟨w.heap.size, 1, none⟩ (.int .i64 b)).setCell ⟨w.heap.size, 2, none⟩ (.int .i64 g)).setCell ⟨w.heap.size, 3, none⟩ (.int .i64 (m : Int))).setCell ⟨w.heap.size, 4, none⟩ (.int .i64 (n : Int))).setCell ⟨w.heap.size, 5, none⟩ (.slice A nc cc)) w.heap.size 28 #[.int .i64 k, .int .i64 b, .int .i64 g, .int .i64 (m : Int), .int .i64 (n : Int), .slice A nc cc] := ((((((HR5.out.far (by show w.heap.size ≠ w2.heap.size; exact nwb) _).st 0 _).st 1 _).st 2 _).st 3 _).st 4 _).st 5 _
  have HOF := own_ch (own_ch HOW.out ((Ch.rf (g := w2.heap.size)).st 5 (.slice A nc cc)) HS5.out) ((((((((Ch.rf (g := w.heap.size)).st 0 (.int .i64 k)).st 1 (.int .i64 b)).st 2 (.int .i64 g)).st 3 (.int .i64 (m : Int))).st 4 (.int .i64 (n : Int))).st 5 (.slice A nc cc))) (by have := HNE.out; have := HS5.out; omega)
  exact bodyPost_ret (v := Sx k b g m n A nc cc) (results_s Try.results11 _ _ _ _ _ _ _ _ _ rfl HBF) rfl ⟨k, b, g, m, n, A, nc, cc, C, rfl, HSV.out C HCC.out.2, own_lowd HOF (by have := HNE.out; have := HS5.out; omega), HCC.out.1, (((((((HO5.out.st HQ2.out _).st HGB.out _).st HGB.out _).st HGB.out _).st HGB.out _).st HGB.out _).st HGB.out _), (((((((HC5.out.st2 hs2 _).st2 (Nat.le_refl _) _).st2 (Nat.le_refl _) _).st2 (Nat.le_refl _) _).st2 (Nat.le_refl _) _).st2 (Nat.le_refl _) _).st2 (Nat.le_refl _) _)⟩
end Go.Proofs.Ytgdhgeongdenpaa.Wd
