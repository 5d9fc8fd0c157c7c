/- keep.Measure: a valid measure. -/
import Derived.Test.YtgdhgeongdenpaaWdC
import Derived.Test.YtgdhgeongdenpaaNear
namespace Go.Proofs.Ytgdhgeongdenpaa.Ms
open Go.ChangeShapes Go.WideShapes Go.RowKit Wo Sr Wi
set_option linter.unusedVariables false
theorem results_m {fn : Func} {p : Tmp} (h : fn.results = #[.cell p 26]) (tmps : Array Value) (w : World) (g : Nat) (a b c : Value)
    (hp : tmps.getD p undef = .pointer (some ⟨g, 0, none⟩)) (hg : Bk w g 26 #[a, b, c]) : (results fn tmps).run Try.prog w = .ok (.agg #[a, b, c]) w := by
  have hp' : tmps[p]?.getD undef = .pointer (some ⟨g, 0, none⟩) := by simpa using hp
  have hl := run_loadVar_row (P := Try.prog) w g 26 26 #[a, b, c] (0, 0) _ hg Try.underlying26 rfl (by kernel_rfl)
  simp [results, h, hp', asAddr, hl]
def SomeMv (q : Nat) (w : World) (e : Ending) (w' : World) : Prop := ∃ k b g, e = .returned (.agg #[.int .i64 k, .int .i64 b, .int .i64 g]) ∧ Mv k b g ∧ Ok w' q ∧ Ch q w w'
set_option maxHeartbeats 4000000 in
set_option maxRecDepth 100000 in
theorem measure_any (q : Nat) (w : World) (h : Ok w q) : Calls Try.prog 37 #[.pointer (some ⟨q, 0, none⟩)] w (SomeMv q w) := by
  have HGB := Lib.hid h.lt
  have HO0 := Lib.hid h
  clear h
  go_enter Try.func37, Try.ntmps37
  go_wp2_with fail
  go_at_call 28
  refine (range_any q 1 5 (by decide) (by decide) (by decide) _ (HO0.out.bel (Bel.rf.al _))).mono ?_
  rintro e w1 ⟨k, rfl, k0, k1, ho, hc⟩
  have HO1 := Lib.hid ho
  have HC1 : Hid (Ch q w w1) := (Ch.of_bel (Bel.rf.al _)).tr hc
  have HR1 : Hid (Bk w1 w.heap.size 26 #[.int .i64 0, .int .i64 0, .int .i64 0]) := hc.bk (Bk.nw _ _ _) (by have := HGB.out; omega)
  clear ho hc
  rcases (by omega : k = 1 ∨ k = 2 ∨ k = 3 ∨ k = 4 ∨ k = 5) with rfl | rfl | rfl | rfl | rfl
  · have r0 : w1.cell? ⟨w.heap.size, 0, none⟩ = some (.int .i64 0) := HR1.out.cell 0
    have r1 : w1.cell? ⟨w.heap.size, 1, none⟩ = some (.int .i64 0) := HR1.out.cell 1
    have r2 : w1.cell? ⟨w.heap.size, 2, none⟩ = some (.int .i64 0) := HR1.out.cell 2
    have f0 := HR1.out.fr 0
    have f1 := HR1.out.fr 1
    have f2 := HR1.out.fr 2
    have lt0 : w.heap.size < w1.heap.size := HR1.out.lt
    go_wp2
    have HBF : Bk ((((w1.setCell ⟨w.heap.size, 0, none⟩ (.int .i64 1)).setCell ⟨w.heap.size, 1, none⟩ (.int .i64 0)).setCell ⟨w.heap.size, 2, none⟩ (.int .i64 0)).alloc (.cells #[.int .i64 1, .int .i64 0, .int .i64 0] 26)) w.heap.size 26 #[.int .i64 1, .int .i64 0, .int .i64 0] := (((HR1.out.st 0 _).st 1 _).st 2 _).al _
    exact bodyPost_ret (v := .agg #[.int .i64 1, .int .i64 0, .int .i64 0]) (results_m Try.results37 _ _ _ _ _ _ rfl HBF) rfl ⟨1, 0, 0, rfl, .inl ⟨.inl rfl, rfl, rfl⟩, ((((HO1.out.st HGB.out _).st HGB.out _).st HGB.out _).bel (Bel.rf.al _)), ((((HC1.out.st2 (Nat.le_refl _) _).st2 (Nat.le_refl _) _).st2 (Nat.le_refl _) _).tr (Ch.of_bel (Bel.rf.al _)))⟩
  · have r0 : w1.cell? ⟨w.heap.size, 0, none⟩ = some (.int .i64 0) := HR1.out.cell 0
    have r1 : w1.cell? ⟨w.heap.size, 1, none⟩ = some (.int .i64 0) := HR1.out.cell 1
    have r2 : w1.cell? ⟨w.heap.size, 2, none⟩ = some (.int .i64 0) := HR1.out.cell 2
    have f0 := HR1.out.fr 0
    have f1 := HR1.out.fr 1
    have f2 := HR1.out.fr 2
    have lt0 : w.heap.size < w1.heap.size := HR1.out.lt
    go_wp2
    have HBF : Bk ((((w1.setCell ⟨w.heap.size, 0, none⟩ (.int .i64 2)).setCell ⟨w.heap.size, 1, none⟩ (.int .i64 0)).setCell ⟨w.heap.size, 2, none⟩ (.int .i64 0)).alloc (.cells #[.int .i64 2, .int .i64 0, .int .i64 0] 26)) w.heap.size 26 #[.int .i64 2, .int .i64 0, .int .i64 0] := (((HR1.out.st 0 _).st 1 _).st 2 _).al _
    exact bodyPost_ret (v := .agg #[.int .i64 2, .int .i64 0, .int .i64 0]) (results_m Try.results37 _ _ _ _ _ _ rfl HBF) rfl ⟨2, 0, 0, rfl, .inl ⟨.inr (.inl rfl), rfl, rfl⟩, ((((HO1.out.st HGB.out _).st HGB.out _).st HGB.out _).bel (Bel.rf.al _)), ((((HC1.out.st2 (Nat.le_refl _) _).st2 (Nat.le_refl _) _).st2 (Nat.le_refl _) _).tr (Ch.of_bel (Bel.rf.al _)))⟩
  · have r0 : w1.cell? ⟨w.heap.size, 0, none⟩ = some (.int .i64 0) := HR1.out.cell 0
    have r1 : w1.cell? ⟨w.heap.size, 1, none⟩ = some (.int .i64 0) := HR1.out.cell 1
    have r2 : w1.cell? ⟨w.heap.size, 2, none⟩ = some (.int .i64 0) := HR1.out.cell 2
    have f0 := HR1.out.fr 0
    have f1 := HR1.out.fr 1
    have f2 := HR1.out.fr 2
    have lt0 : w.heap.size < w1.heap.size := HR1.out.lt
    go_wp2
    have HBF : Bk ((((w1.setCell ⟨w.heap.size, 0, none⟩ (.int .i64 3)).setCell ⟨w.heap.size, 1, none⟩ (.int .i64 0)).setCell ⟨w.heap.size, 2, none⟩ (.int .i64 0)).alloc (.cells #[.int .i64 3, .int .i64 0, .int .i64 0] 26)) w.heap.size 26 #[.int .i64 3, .int .i64 0, .int .i64 0] := (((HR1.out.st 0 _).st 1 _).st 2 _).al _
    exact bodyPost_ret (v := .agg #[.int .i64 3, .int .i64 0, .int .i64 0]) (results_m Try.results37 _ _ _ _ _ _ rfl HBF) rfl ⟨3, 0, 0, rfl, .inl ⟨.inr (.inr rfl), rfl, rfl⟩, ((((HO1.out.st HGB.out _).st HGB.out _).st HGB.out _).bel (Bel.rf.al _)), ((((HC1.out.st2 (Nat.le_refl _) _).st2 (Nat.le_refl _) _).st2 (Nat.le_refl _) _).tr (Ch.of_bel (Bel.rf.al _)))⟩
  · have HA1 : Hid (Ok (w1.alloc (.cells #[.int .i64 4, .int .i64 0, .int .i64 0] 26)) q) := HO1.out.bel (Bel.rf.al _)
    go_wp2_with fail
    go_at_call 40
    refine (pick_any q _ [0, 1, 2, 3, 5, 32] 6 (by rfl) (by decide) (by decide) (Nat.ne_of_gt (Nat.lt_of_lt_of_le HGB.out (Nat.le_trans HC1.out.sz (Nat.le_succ _)))) _ (HA1.out.bel (Bel.rf.al _)) (lst_new _ _ _ _ (by rfl) _ (by simp))).mono ?_
    rintro e w2 ⟨x, rfl, hx, ho, hc⟩
    have hxr : 0 ≤ x ∧ x ≤ 32 := by simp at hx; omega
    obtain ⟨x0, x1⟩ := hxr
    have HR2 := hc.bk ((HR1.out.al (.cells #[.int .i64 4, .int .i64 0, .int .i64 0] 26)).al (.cells _ _)) (by have := HGB.out; omega)
    have HM2 : Bk w2 w1.heap.size 26 #[.int .i64 4, .int .i64 0, .int .i64 0] := hc.bk ((Bk.nw _ _ _).al _) (by have := HGB.out; have := HC1.out.sz; omega)
    have HO2 := Lib.hid ho
    have HC2 : Hid (Ch q w w2) := HC1.out.tr ((Ch.of_bel ((Bel.rf.al _).al _)).tr hc)
    have HSZ := Lib.hid HC1.out.sz
    have m0 : w2.cell? ⟨w1.heap.size, 0, none⟩ = some (.int .i64 4) := HM2.cell 0
    have m1 : w2.cell? ⟨w1.heap.size, 1, none⟩ = some (.int .i64 0) := HM2.cell 1
    have m2 : w2.cell? ⟨w1.heap.size, 2, none⟩ = some (.int .i64 0) := HM2.cell 2
    have n0 := HM2.fr 0
    have n1 := HM2.fr 1
    have n2 := HM2.fr 2
    have r0 : w2.cell? ⟨w.heap.size, 0, none⟩ = some (.int .i64 0) := HR2.cell 0
    have r1 : w2.cell? ⟨w.heap.size, 1, none⟩ = some (.int .i64 0) := HR2.cell 1
    have r2 : w2.cell? ⟨w.heap.size, 2, none⟩ = some (.int .i64 0) := HR2.cell 2
    have f0 := HR2.fr 0
    have f1 := HR2.fr 1
    have f2 := HR2.fr 2
    have lt0 : w.heap.size < w2.heap.size := HR2.lt
    have hne : w.heap.size ≠ w1.heap.size := by have := HR1.out.lt; omega
    have HR2H := Lib.hid HR2
    clear ho hc hx HR2 HM2
    go_wp2
    have HBF : Bk ((((w2.setCell ⟨w1.heap.size, 1, none⟩ (.int .i64 x)).setCell ⟨w.heap.size, 0, none⟩ (.int .i64 4)).setCell ⟨w.heap.size, 1, none⟩ (.int .i64 x)).setCell ⟨w.heap.size, 2, none⟩ (.int .i64 0)) w.heap.size 26 #[.int .i64 4, .int .i64 x, .int .i64 0] := (((Bk.far HR2H.out hne _).st 0 _).st 1 _).st 2 _
    exact bodyPost_ret (v := .agg #[.int .i64 4, .int .i64 x, .int .i64 0]) (results_m Try.results37 _ _ _ _ _ _ rfl HBF) rfl ⟨4, x, 0, rfl, .inr (.inl ⟨rfl, x0, x1, rfl⟩), ((((HO2.out.st (Nat.lt_of_lt_of_le HGB.out HSZ.out) _).st HGB.out _).st HGB.out _).st HGB.out _), ((((HC2.out.st2 HSZ.out _).st2 (Nat.le_refl _) _).st2 (Nat.le_refl _) _).st2 (Nat.le_refl _) _)⟩
  · have HA1 : Hid (Ok (w1.alloc (.cells #[.int .i64 5, .int .i64 0, .int .i64 0] 26)) q) := HO1.out.bel (Bel.rf.al _)
    go_wp2_with fail
    go_at_call 40
    refine (pick_any q _ [0, 0, 1, -3, 20, -1000] 6 (by rfl) (by decide) (by decide) (Nat.ne_of_gt (Nat.lt_of_lt_of_le HGB.out (Nat.le_trans HC1.out.sz (Nat.le_succ _)))) _ (HA1.out.bel (Bel.rf.al _)) (lst_new _ _ _ _ (by rfl) _ (by simp))).mono ?_
    rintro e w2 ⟨x, rfl, hx, ho, hc⟩
    have hxr : -1000 ≤ x ∧ x ≤ 1000 := by simp at hx; omega
    obtain ⟨x0, x1⟩ := hxr
    have HR2 := hc.bk ((HR1.out.al (.cells #[.int .i64 5, .int .i64 0, .int .i64 0] 26)).al (.cells _ _)) (by have := HGB.out; omega)
    have HM2 : Bk w2 w1.heap.size 26 #[.int .i64 5, .int .i64 0, .int .i64 0] := hc.bk ((Bk.nw _ _ _).al _) (by have := HGB.out; have := HC1.out.sz; omega)
    have HO2 := Lib.hid ho
    have HC2 : Hid (Ch q w w2) := HC1.out.tr ((Ch.of_bel ((Bel.rf.al _).al _)).tr hc)
    have HSZ := Lib.hid HC1.out.sz
    have m0 : w2.cell? ⟨w1.heap.size, 0, none⟩ = some (.int .i64 5) := HM2.cell 0
    have m1 : w2.cell? ⟨w1.heap.size, 1, none⟩ = some (.int .i64 0) := HM2.cell 1
    have m2 : w2.cell? ⟨w1.heap.size, 2, none⟩ = some (.int .i64 0) := HM2.cell 2
    have n0 := HM2.fr 0
    have n1 := HM2.fr 1
    have n2 := HM2.fr 2
    have r0 : w2.cell? ⟨w.heap.size, 0, none⟩ = some (.int .i64 0) := HR2.cell 0
    have r1 : w2.cell? ⟨w.heap.size, 1, none⟩ = some (.int .i64 0) := HR2.cell 1
    have r2 : w2.cell? ⟨w.heap.size, 2, none⟩ = some (.int .i64 0) := HR2.cell 2
    have f0 := HR2.fr 0
    have f1 := HR2.fr 1
    have f2 := HR2.fr 2
    have lt0 : w.heap.size < w2.heap.size := HR2.lt
    have hne : w.heap.size ≠ w1.heap.size := by have := HR1.out.lt; omega
    have HR2H := Lib.hid HR2
    clear ho hc hx HR2 HM2
    go_wp2
    have HBF : Bk ((((w2.setCell ⟨w1.heap.size, 2, none⟩ (.int .i64 x)).setCell ⟨w.heap.size, 0, none⟩ (.int .i64 5)).setCell ⟨w.heap.size, 1, none⟩ (.int .i64 0)).setCell ⟨w.heap.size, 2, none⟩ (.int .i64 x)) w.heap.size 26 #[.int .i64 5, .int .i64 0, .int .i64 x] := (((Bk.far HR2H.out hne _).st 0 _).st 1 _).st 2 _
    exact bodyPost_ret (v := .agg #[.int .i64 5, .int .i64 0, .int .i64 x]) (results_m Try.results37 _ _ _ _ _ _ rfl HBF) rfl ⟨5, 0, x, rfl, .inr (.inr ⟨rfl, rfl, x0, x1⟩), ((((HO2.out.st (Nat.lt_of_lt_of_le HGB.out HSZ.out) _).st HGB.out _).st HGB.out _).st HGB.out _), ((((HC2.out.st2 HSZ.out _).st2 (Nat.le_refl _) _).st2 (Nat.le_refl _) _).st2 (Nat.le_refl _) _)⟩
end Go.Proofs.Ytgdhgeongdenpaa.Ms
