/- What the laws of layer 21 want besides: comparisons of bounds, capacities of rows. -/
import Derived.Test.YtgdhgeongdenpaaSkA
import Derived.Test.YtgdhgeongdenpaaRg13
import Derived.Test.YtgdhgeongdenpaaNear
import Derived.Test.YtgdhgeongdenpaaApp
namespace Go.Proofs.Ytgdhgeongdenpaa.Sk
open Go.ChangeShapes Go.WideShapes Go.RowKit Wo Sr Wi Ra Nr Eu
set_option linter.unusedVariables false
theorem cmp_le {t u t' u' T S C : Int} (hC : 1 ≤ C) (h : Vl t u T C) (k : Vl t' u' S C) (hle : T ≤ S) (w : World) :
    Calls Try.prog 31 #[.agg #[.int .i64 t, .int .i64 u], .agg #[.int .i64 t', .int .i64 u']] w fun e w' => ∃ c, e = .returned (.int .i64 c) ∧ c ≤ 0 ∧ Bel w w' := by
  refine (rcmp_ok t u t' u' h.1 k.1 w).mono ?_
  rintro e w' ⟨rfl, hb⟩
  refine ⟨_, rfl, ?_, hb⟩
  have hl := (vl_le hC h k).2 hle
  rcases Int.lt_trichotomy (t * u') (t' * u) with g | g | g
  · rw [cmpI_lt g]; decide
  · rw [cmpI_eq g]; decide
  · omega
theorem row_cap {w : World} {base h n c : Nat} {L : List Int} (hr : w.ownsRow base 3 1 (.slice (some ⟨h, 0, none⟩) n c) n (zs L)) : n ≤ c := by
  rcases hr.2 with ⟨h0, _⟩ | ⟨g, cap, cur, hv, hb, hg, h1, _⟩
  · cases h0
  · injection hv with a b e
    omega
/-- four fifths of a sample -/
def fif (a : Int) : Int := (a * 4).tdiv 5
theorem fif_in {a : Int} (h0 : -1000 ≤ a) (h1 : a ≤ 1000) : -800 ≤ fif a ∧ fif a ≤ 800 := by
  unfold fif
  rcases Int.lt_or_le a 0 with h | h
  · have e : (a * 4).tdiv 5 = -((-(a * 4)).tdiv 5) := by rw [Int.neg_tdiv, Int.neg_neg]
    rw [e, Int.tdiv_eq_ediv_of_nonneg (by omega)]
    omega
  · rw [Int.tdiv_eq_ediv_of_nonneg (by omega)]
    omega
theorem own_far {w : World} {base h n c : Nat} {xs : List Value} {e : TypeId} (hown : w.ownsRow base e 1 (.slice (some ⟨h, 0, none⟩) n c) n xs) {p : Addr} (hp : h ≠ p.block) (u : Value) : (w.setCell p u).ownsRow base e 1 (.slice (some ⟨h, 0, none⟩) n c) n xs := by
  refine ⟨hown.1, ?_⟩
  rcases hown.2 with ⟨h0, _⟩ | ⟨g, cap, cur, e1, hb, hg, h1⟩
  · cases h0
  · have e2 := e1
    injection e1 with e1 _ _
    injection e1 with e1
    cases e1
    exact .inr ⟨h, cap, cur, e2, hb, Bk.far (t := e) hg hp u, h1⟩
theorem bel_low {w a b : World} {B : Nat} (h : Bel w a) (hb : Below B a b) (hB : w.heap.size ≤ B) : Bel w b := Below.trans h (Below.mono hb hB)
theorem cen_mv (b : Int) (D : List Int) : cen (af 1 b D) = cen D := by
  unfold cen
  rw [af_su, af_len]
  unfold af
  rw [List.map_map]
  refine List.map_congr_left (fun x _ => ?_)
  show (x * 1 + b) * (D.length : Int) + -(1 * su ix D + (D.length : Int) * b) = x * (D.length : Int) + -su ix D
  grind
theorem cen_sc (f : Int) (D : List Int) : cen (af f 0 D) = af f 0 (cen D) := by
  unfold cen
  rw [af_su, af_len]
  unfold af
  rw [List.map_map, List.map_map]
  refine List.map_congr_left (fun x _ => ?_)
  show (x * f + 0) * (D.length : Int) + -(f * su ix D + (D.length : Int) * 0) = (x * (D.length : Int) + -su ix D) * f + 0
  grind
theorem pa_sc (f : Int) (P : List Int) (m n k : Nat) (hP : P.length = m) (n1 : 1 ≤ n) (hk : k < n) : pa (cen (af f 0 P)) m n k = pa (cen P) m n k * f := by
  rw [cen_sc]
  unfold pa
  rw [pg_af f 0 (cen P) _ _ (st_mono m n _ _ (by omega)) (by rw [cen_len', hP]; exact st_le m n _ n1 (by omega))]
  rw [Int.mul_zero, Int.add_zero, Int.mul_comm]
end Go.Proofs.Ytgdhgeongdenpaa.Sk
