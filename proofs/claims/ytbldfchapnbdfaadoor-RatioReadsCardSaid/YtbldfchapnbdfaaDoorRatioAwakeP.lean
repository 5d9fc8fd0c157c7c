/- The contract of shapesearchlaw01.awake: it returns true. -/
import Derived.Test.YtbldfchapnbdfaaDoorRatioFloorP
import Derived.Test.YtbldfchapnbdfaaDoorRatioAddLowP
namespace Go.Proofs.YtbldfchapnbdfaaDoor.Ra
open Go.ChangeShapes Go.WideShapes Go.RowKit Wo
set_option linter.unusedVariables false
theorem make64 (w : World) : Calls Tryd.prog 10 #[.int .i64 6, .int .i64 4] w fun e w' => e = .returned (.tuple #[.agg #[.int .i64 3, .int .i64 2], .int .i64 0]) ∧ Bel w w' := by
  have g : gd 6 4 = 2 := by decide
  have h := make_in 6 4 w (by decide) (by decide) (by rw [g]; exact rin_yes ⟨by decide, by decide, by decide, by decide⟩) (by decide) (by decide)
  rw [g] at h
  exact h
theorem add1213 (w : World) : Calls Tryd.prog 11 #[.agg #[.int .i64 1, .int .i64 2], .agg #[.int .i64 1, .int .i64 3]] w fun e w' => e = .returned (.tuple #[.agg #[.int .i64 5, .int .i64 6], .int .i64 0]) ∧ Bel w w' :=
  add_low 1 2 1 3 1 5 1 w rv12 rv13 (by decide) (by decide) (by decide) (by decide) (by decide) (by decide)
theorem ceil72 (w : World) : Calls Tryd.prog 12 #[.agg #[.int .i64 7, .int .i64 2]] w fun e w' => e = .returned (.int .i64 4) ∧ Bel w w' := ceil_any 7 2 rv72 w
set_option maxHeartbeats 2000000 in
theorem awake_any (w : World) : Calls Tryd.prog 4 #[] w fun e w' => e = .returned (.bool true) ∧ Bel w w' := by
  go_enter Tryd.func4, Tryd.ntmps4
  go_wp2_with fail
  go_at_call 10
  refine (make64 _).mono ?_
  rintro e w1 ⟨rfl, h1⟩
  go_wp2_with fail
  go_at_call 11
  refine (add1213 _).mono ?_
  rintro e w2 ⟨rfl, h2⟩
  have B1 : Bk w2 w1.heap.size 25 #[.int .i64 3, .int .i64 2] := (Bk.nw _ _ _).bel h2
  have l1 := B1.lt
  have k0 : w2.cell? ⟨w1.heap.size, 0, none⟩ = some (.int .i64 3) := B1.cell 0
  have k1 : w2.cell? ⟨w1.heap.size, 1, none⟩ = some (.int .i64 2) := B1.cell 1
  go_wp2_with fail
  go_at_call 12
  refine (ceil72 _).mono ?_
  rintro e w3 ⟨rfl, h3⟩
  have B2 := (B1.al _).bel h3
  have k2 : w3.cell? ⟨w1.heap.size, 0, none⟩ = some (.int .i64 3) := B2.cell 0
  have k3 : w3.cell? ⟨w1.heap.size, 1, none⟩ = some (.int .i64 2) := B2.cell 1
  go_wp2_with fail
  go_at_call 8
  refine (format32 _).mono ?_
  rintro e w4 ⟨rfl, h4⟩
  go_wp2
  go_ret
  exact ⟨rfl, (by repeat (first | exact Bel.rf | (with_reducible refine Bel.drwN ?_ _) | (with_reducible refine Bel.drw ?_) | (with_reducible refine Bel.al ?_ _) | ((with_reducible refine Bel.st2 ?_ ?_ _); (show _ ≤ _); (simp only []; omega)) | refine Bel.tr ?_ (by assumption)))⟩
end Go.Proofs.YtbldfchapnbdfaaDoor.Ra
