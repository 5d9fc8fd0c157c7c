/- euclid's and ref12's Shifted of lists that are refused. -/
import Derived.Test.YtekeclapbfjdiaaEuB
namespace Go.Proofs.Ytekeclapbfjdiaa.Say
open Go.ChangeShapes Go.WideShapes Go.RowKit Wo Sr Wi
set_option linter.unusedVariables false
theorem results_rt {fn : Func} {p u : Tmp} (h : fn.results = #[.cell p 37, .tmp u]) (tmps : Array Value) (w : World) (g : Nat) (a b : Value)
    (hp : tmps.getD p undef = .pointer (some ⟨g, 0, none⟩)) (hg : Bk w g 37 #[a, b]) :
    (results fn tmps).run Try.prog w = .ok (.tuple #[.agg #[a, b], tmps.getD u undef]) w := by
  have hp' : tmps[p]?.getD undef = .pointer (some ⟨g, 0, none⟩) := by simpa using hp
  have hl := run_loadVar_row (P := Try.prog) w g 37 37 #[a, b] (0, 0) _ hg Try.underlying37 rfl (by kernel_rfl)
  simp [results, h, hp', asAddr, hl]
set_option maxHeartbeats 2000000 in
theorem shift_bad (A A' : Option Addr) (c c' n m : Nat) (L M : List Int) (E : Int) (hE : two n m L M 0 = E) (h0 : E ≠ 0) (hn : n ≤ 100000000) (hm : m ≤ 100000000) (w : World) (h1 : Zi w A n L) (h2 : Zi w A' m M) :
    Calls Try.prog 13 #[.slice A n c, .slice A' m c'] w fun e w' => e = .returned (.tuple #[.agg #[.int .i64 0, .int .i64 0], .int .i64 E]) ∧ Bel w w' := by
  have HB0 : Hid (Bk (w.alloc (.cells #[.int .i64 0, .int .i64 0] 37)) w.heap.size 37 #[.int .i64 0, .int .i64 0]) := Bk.nw _ _ _
  have HE0 : Hid (Bel w (w.alloc (.cells #[.int .i64 0, .int .i64 0] 37))) := Bel.rf.al _
  have HW := Lib.hid (dist_bad A A' c c' n m L M E hE h0 hn hm (w.alloc (.cells #[.int .i64 0, .int .i64 0] 37)) (h1.bel HE0.out) (h2.bel HE0.out))
  have e0 : (E == 0) = false := by rw [beq_eq_false_iff_ne]; exact h0
  clear hE h1 h2
  go_enter Try.func13, Try.ntmps13
  go_wp2_with fail
  go_at_call 11
  refine HW.out.mono ?_
  rintro e w1 ⟨rfl, hb1⟩
  have HB1 := Lib.hid (HB0.out.bel hb1)
  have HE1 := Lib.hid (HE0.out.tr hb1)
  have r0 : w1.cell? ⟨w.heap.size, 0, none⟩ = some (.int .i64 0) := HB1.out.cell 0
  have r1 : w1.cell? ⟨w.heap.size, 1, none⟩ = some (.int .i64 0) := HB1.out.cell 1
  have f0 : w1.frozen? ⟨w.heap.size, 0, none⟩ = false := HB1.out.fr 0
  have f1 : w1.frozen? ⟨w.heap.size, 1, none⟩ = false := HB1.out.fr 1
  clear hb1
  go_wp2
  have HF : Hid (Bk ((w1.setCell ⟨w.heap.size, 0, none⟩ (.int .i64 0)).setCell ⟨w.heap.size, 1, none⟩ (.int .i64 0)) w.heap.size 37 #[.int .i64 0, .int .i64 0]) := (HB1.out.st 0 _).st 1 _
  have HE : Hid (Bel w ((w1.setCell ⟨w.heap.size, 0, none⟩ (.int .i64 0)).setCell ⟨w.heap.size, 1, none⟩ (.int .i64 0))) := Bel.st2 (Nat.le_refl _) (Bel.st2 (Nat.le_refl _) HE1.out _) _
  exact bodyPost_ret (v := .tuple #[.agg #[.int .i64 0, .int .i64 0], .int .i64 E]) (results_rt Try.results13 _ _ w.heap.size _ _ rfl (HF.out.bel (by repeat (first | exact Bel.rf | (with_reducible refine Bel.drwN ?_ _) | (with_reducible refine Bel.drw ?_) | (with_reducible refine Bel.al ?_ _))))) rfl ⟨rfl, HE.out.tr (by repeat (first | exact Bel.rf | (with_reducible refine Bel.drwN ?_ _) | (with_reducible refine Bel.drw ?_) | (with_reducible refine Bel.al ?_ _)))⟩
set_option maxHeartbeats 2000000 in
theorem rshift_bad (A A' : Option Addr) (c c' n m : Nat) (L M : List Int) (E : Int) (hE : two n m L M 0 = E) (h0 : E ≠ 0) (hn : n ≤ 100000000) (hm : m ≤ 100000000) (w : World) (h1 : Zi w A n L) (h2 : Zi w A' m M) :
    Calls Try.prog 14 #[.slice A n c, .slice A' m c'] w fun e w' => e = .returned (.tuple #[.agg #[.int .i64 0, .int .i64 0], .int .i64 E]) ∧ Bel w w' := by
  have HB0 : Hid (Bk (w.alloc (.cells #[.int .i64 0, .int .i64 0] 37)) w.heap.size 37 #[.int .i64 0, .int .i64 0]) := Bk.nw _ _ _
  have HE0 : Hid (Bel w (w.alloc (.cells #[.int .i64 0, .int .i64 0] 37))) := Bel.rf.al _
  have HW := Lib.hid ((fun W k1 k2 => by have := rtwo_any A A' c c' n m L M 0 (by omega) hn hm W k1 k2; rwa [hE] at this : ∀ W, Zi W A n L → Zi W A' m M → Calls Try.prog 41 #[.slice A n c, .slice A' m c', .int .i64 ((0 : Nat) : Int)] W fun e w' => e = .returned (.int .i64 E) ∧ Bel W w') (w.alloc (.cells #[.int .i64 0, .int .i64 0] 37)) (h1.bel HE0.out) (h2.bel HE0.out))
  have e0 : (E == 0) = false := by rw [beq_eq_false_iff_ne]; exact h0
  clear hE h1 h2
  go_enter Try.func14, Try.ntmps14
  go_wp2_with fail
  go_at_call 41
  refine HW.out.mono ?_
  rintro e w1 ⟨rfl, hb1⟩
  have HB1 := Lib.hid (HB0.out.bel hb1)
  have HE1 := Lib.hid (HE0.out.tr hb1)
  have r0 : w1.cell? ⟨w.heap.size, 0, none⟩ = some (.int .i64 0) := HB1.out.cell 0
  have r1 : w1.cell? ⟨w.heap.size, 1, none⟩ = some (.int .i64 0) := HB1.out.cell 1
  have f0 : w1.frozen? ⟨w.heap.size, 0, none⟩ = false := HB1.out.fr 0
  have f1 : w1.frozen? ⟨w.heap.size, 1, none⟩ = false := HB1.out.fr 1
  clear hb1
  go_wp2
  have HF : Hid (Bk ((w1.setCell ⟨w.heap.size, 0, none⟩ (.int .i64 0)).setCell ⟨w.heap.size, 1, none⟩ (.int .i64 0)) w.heap.size 37 #[.int .i64 0, .int .i64 0]) := (HB1.out.st 0 _).st 1 _
  have HE : Hid (Bel w ((w1.setCell ⟨w.heap.size, 0, none⟩ (.int .i64 0)).setCell ⟨w.heap.size, 1, none⟩ (.int .i64 0))) := Bel.st2 (Nat.le_refl _) (Bel.st2 (Nat.le_refl _) HE1.out _) _
  exact bodyPost_ret (v := .tuple #[.agg #[.int .i64 0, .int .i64 0], .int .i64 E]) (results_rt Try.results14 _ _ w.heap.size _ _ rfl (HF.out.bel (by repeat (first | exact Bel.rf | (with_reducible refine Bel.drwN ?_ _) | (with_reducible refine Bel.drw ?_) | (with_reducible refine Bel.al ?_ _))))) rfl ⟨rfl, HE.out.tr (by repeat (first | exact Bel.rf | (with_reducible refine Bel.drwN ?_ _) | (with_reducible refine Bel.drw ?_) | (with_reducible refine Bel.al ?_ _)))⟩
end Go.Proofs.Ytekeclapbfjdiaa.Say
