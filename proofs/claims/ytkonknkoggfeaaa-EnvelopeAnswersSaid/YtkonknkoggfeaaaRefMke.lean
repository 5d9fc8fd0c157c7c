/- The contract of shapesearchref01.Make. -/
import Derived.Test.YtkonknkoggfeaaaPieM2
import Derived.Test.YtkonknkoggfeaaaRef01
import Derived.Test.YtkonknkoggfeaaaRef12
import Derived.Test.YtkonknkoggfeaaaPieSume
namespace Go.Proofs.Ytkonknkoggfeaaa.R12
open Go.ChangeShapes Go.WideShapes Go.RowKit Wo Sr Wi Ra Eu
set_option linter.unusedVariables false
set_option maxHeartbeats 1000000 in
theorem rmake_ok (n d : Int) (h0 : 0 ≤ n) (h1 : 1 ≤ d) (h2 : n ≤ 2305843009213693952) (h3 : d ≤ 1152921504606846976) (w : World) :
    Calls Try.prog 68 #[.int .i64 n, .int .i64 d] w fun e w' => ∃ t u, e = .returned (.tuple #[.agg #[.int .i64 t, .int .i64 u], .int .i64 0]) ∧ Vl t u n d ∧ Bel w w' := by
  have hv := vl_make h0 h1 h2 h3
  have b1 : decide (n < 0) = false := by simpa using h0
  have b2 : decide (d < 1) = false := by simpa using h1
  have g1 := gd_pos (a := n) (b := d) (by omega)
  have g2 := gd_le_right (a := n) (b := d) (by omega)
  have g3 : gd n d ≠ 0 := by omega
  have e1 : 0 ≤ n / gd n d := Int.ediv_nonneg h0 (by omega)
  have e2 : 0 ≤ d / gd n d := Int.ediv_nonneg (by omega) (by omega)
  have e3 : n / gd n d ≤ n := Int.ediv_le_self _ h0
  have e4 : d / gd n d ≤ d := Int.ediv_le_self _ (by omega)
  have HV := Lib.hid hv
  clear hv
  go_enter Try.func68, Try.ntmps68
  go_wp2_with (first | (go_at_call 73; refine (common_any _ _ h0 (by omega) _).mono ?_; rintro e w2 ⟨rfl, m, rfl⟩))
  go_region
  go_wp2_with (first | (go_at_call 74; refine (rvalid_ok _ _ HV.out.1 _).mono ?_; rintro e w3 ⟨rfl, hb⟩; obtain ⟨hc, hf⟩ := hb.cells; have hsz := hb.size; have B0 : Bk w3 w.heap.size 39 #[.int .i64 0, .int .i64 0] := (((Bk.nw _ _ _).drwN _).al _).bel hb; have hz0 := B0.lt; have k0 : w3.cell? ⟨w.heap.size, 0, none⟩ = some (.int .i64 0) := B0.cell 0; have k1 : w3.cell? ⟨w.heap.size, 1, none⟩ = some (.int .i64 0) := B0.cell 1))
  refine bodyPost_ret (v := .tuple #[.agg #[.int .i64 (n / gd n d), .int .i64 (d / gd n d)], .int .i64 0]) (by simp [results, Try.results68, go_sem, k0, k1]) rfl ⟨_, _, rfl, HV.out, (by repeat (first | exact Bel.rf | (with_reducible refine Bel.st ?_ (by simp) _) | (with_reducible refine Bel.drwN ?_ _) | (with_reducible refine Bel.drw ?_) | (with_reducible refine Bel.al ?_ _) | refine Bel.tr ?_ (by assumption)))⟩
end Go.Proofs.Ytkonknkoggfeaaa.R12
