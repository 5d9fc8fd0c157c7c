/- Facts of cleaned readings for the walks. -/
import Derived.Test.YtgcjangnlbhicaaStTm2
namespace Go.Proofs.Ytgcjangnlbhicaa.St
open Go.ChangeShapes Go.WideShapes Go.RowKit Wo Sr Wi Rm Rg
set_option linter.unusedVariables false
theorem cln_tm {p : Int} {l : List Rp} {i : Nat} (h : i < (uts l).length) : tm (cln p l) i = (uts l).getD i 0 := by rw [tm_rd, (cln_at h).1]
theorem cln_vl {p : Int} {l : List Rp} {i : Nat} (h : i < (uts l).length) : vl (cln p l) i = val p (fl l ((uts l).getD i 0)) := by rw [vl_rd, (cln_at h).1]
theorem cln_steps (p : Int) (l : List Rp) : ∀ i, i < (uts l).length → 0 < (vs l (tm (cln p l) i)).length ∧ ∀ j, j < i → tm (cln p l) j < tm (cln p l) i := fun i hi => by
  refine ⟨?_, fun j hj => ?_⟩
  · rw [cln_tm hi]
    unfold vs
    rw [List.length_map]
    exact grs_pos' (cln_at (p := p) hi).2
  · rw [cln_tm hi, cln_tm (by omega)]
    exact uts_lt hj hi
theorem cln_lohi {l : List Rp} (hv : Vrs l) (p : Int) {i : Nat} (h : i < (uts l).length) : vl (cln 3 l) i ≤ vl (cln p l) i ∧ vl (cln p l) i ≤ vl (cln 4 l) i := by
  rw [cln_vl h, cln_vl h, cln_vl h]
  have hm := (cln_at (p := p) h).2
  exact val_mid (fl_vls hv hm) (grs_pos' hm) p
end Go.Proofs.Ytgcjangnlbhicaa.St
