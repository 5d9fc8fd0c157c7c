/- clean.byValue, slices.MinFunc, slices.MaxFunc of readings by value; the least, the greatest. -/
import Derived.Test.YtgcjangnlbhicaaStX
namespace Go.Proofs.Ytgcjangnlbhicaa.St
open Go.ChangeShapes Go.WideShapes Go.RowKit Wo Sr Wi Rm Rg
set_option linter.unusedVariables false
theorem run_value (t v : Int) (w : World) : (Instr.field 28 (.agg #[.int .i64 t, .int .i64 v]) 1).run Try.prog w = .ok (.int .i64 v) w := by
  first | kernel_rfl | (simp [Instr.field, go_sem, run_underlying Try.underlying28]; done) | (simp [Instr.field, go_sem, run_underlying Try.underlying28]; rfl)
set_option maxHeartbeats 2000000 in
set_option maxRecDepth 100000 in
theorem pol_least : Pol 30 3 := fun ad m c q w hz hm hm2 hv => by
  have HF : Hid (Calls Try.prog 31 #[.slice (some ad) m c, .func (.func 32) #[] #[]] w fun e w' => ∃ t : Int, e = .returned (.agg #[.int .i64 t, .int .i64 (lo q)]) ∧ Bel w w') := min_ok ad m c q w hz hm hm2
  have HE : Hid (val 3 q = lo q) := by show _ = _; unfold val; rw [if_neg (by decide), if_pos rfl]
  have hfv := run_value
  clear hz hv
  go_enter Try.func30, Try.ntmps30
  go_wp2_with (go_at_call 31; refine HF.out.mono ?_; rintro e w2 ⟨t, rfl, hb2⟩)
  go_ret
  exact ⟨ret_int HE.out.symm, by first | exact hb2 | exact hb2.drwN _⟩
set_option maxHeartbeats 2000000 in
set_option maxRecDepth 100000 in
theorem pol_greatest : Pol 33 4 := fun ad m c q w hz hm hm2 hv => by
  have HF : Hid (Calls Try.prog 34 #[.slice (some ad) m c, .func (.func 32) #[] #[]] w fun e w' => ∃ t : Int, e = .returned (.agg #[.int .i64 t, .int .i64 (hi q)]) ∧ Bel w w') := max_ok ad m c q w hz hm hm2
  have HE : Hid (val 4 q = hi q) := by show _ = _; unfold val; rw [if_neg (by decide), if_neg (by decide), if_pos rfl]
  have hfv := run_value
  clear hz hv
  go_enter Try.func33, Try.ntmps33
  go_wp2_with (go_at_call 34; refine HF.out.mono ?_; rintro e w2 ⟨t, rfl, hb2⟩)
  go_ret
  exact ⟨ret_int HE.out.symm, by first | exact hb2 | exact hb2.drwN _⟩
end Go.Proofs.Ytgcjangnlbhicaa.St
