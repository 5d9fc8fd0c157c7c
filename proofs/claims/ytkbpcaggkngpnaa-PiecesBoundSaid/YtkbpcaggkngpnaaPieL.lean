/- What the laws of layer 18 say of the bounds: comparisons of what Lower and Shifted return. -/
import Derived.Test.YtkbpcaggkngpnaaPieAwake
import Derived.Test.YtkbpcaggkngpnaaPieM2
import Derived.Test.YtkbpcaggkngpnaaRef01
import Derived.Test.YtkbpcaggkngpnaaNear
import Derived.Test.YtkbpcaggkngpnaaApp
namespace Go.Proofs.Ytkbpcaggkngpnaa.Pc
open Go.ChangeShapes Go.WideShapes Go.RowKit Wo Sr Wi Ra Nr Eu
set_option linter.unusedVariables false
theorem bnd_bq (m n : Nat) (X Y : List Int) (h : X.length = Y.length) : bnd m n (pls X m n) (pls Y m n) = bq (df X Y) m n := by
  unfold bnd bq
  refine tq_cong (n := n) (fun k hk => ?_) n (Nat.le_refl n)
  rw [pls_at _ _ _ _ hk, pls_at _ _ _ _ hk, pg_df X Y h]
theorem bnd_cen (m n : Nat) (X Y : List Int) (h : X.length = Y.length) : bnd m n (pls (cen X) m n) (pls (cen Y) m n) = bq (cen (df X Y)) m n := by
  rw [bnd_bq m n (cen X) (cen Y) (by rw [cen_len, cen_len, h]), df_cen X Y h]
theorem cmp_le {t u t' u' T S C : Int} (hC : 1 ≤ C) (h : Vl t u T C) (k : Vl t' u' S C) (hle : T ≤ S) (w : World) :
    Calls Try.prog 21 #[.agg #[.int .i64 t, .int .i64 u], .agg #[.int .i64 t', .int .i64 u']] w fun e w' => ∃ c, e = .returned (.int .i64 c) ∧ c ≤ 0 ∧ Bel w w' := by
  refine (rcmp_ok t u t' u' h.1 k.1 w).mono ?_
  rintro e w' ⟨rfl, hb⟩
  refine ⟨_, rfl, ?_, hb⟩
  have hl := (vl_le hC h k).2 hle
  rcases Int.lt_trichotomy (t * u') (t' * u) with g | g | g
  · rw [cmpI_lt g]; decide
  · rw [cmpI_eq g]; decide
  · omega
theorem cmp_two {t u t' u' T S s C K : Int} (hs : 1 ≤ s) (hC : 1 ≤ C) (hK : 1 ≤ K) (h : Vl t u T (s * C)) (k : Vl t' u' S (s * K)) (hle : T * K ≤ S * C) (w : World) :
    Calls Try.prog 21 #[.agg #[.int .i64 t, .int .i64 u], .agg #[.int .i64 t', .int .i64 u']] w fun e w' => ∃ c, e = .returned (.int .i64 c) ∧ c ≤ 0 ∧ Bel w w' := by
  have h1 := vl_scale (k := K) h
  have k1 := vl_scale (k := C) k
  rw [Int.mul_right_comm s K C] at k1
  have a : 1 * 1 ≤ s * C := Int.mul_le_mul hs hC (by omega) (by omega)
  have b : 1 * 1 ≤ s * C * K := Int.mul_le_mul (by omega) hK (by omega) (by omega)
  exact cmp_le (by omega) h1 k1 hle w
theorem row_cap {w : World} {base h n c : Nat} {L : List Int} (hr : w.ownsRow base 3 1 (.slice (some ⟨h, 0, none⟩) n c) n (zs L)) : n ≤ c := by
  rcases hr.2 with ⟨h0, _⟩ | ⟨g, cap, cur, hv, hb, hg, h1, _⟩
  · cases h0
  · injection hv with a b e
    omega
theorem mm_in {m : Nat} (m2 : 2 ≤ m) (m32 : m ≤ 32) : 1 ≤ (m : Int) * (m : Int) := by
  have b : 1 * 1 ≤ (m : Int) * (m : Int) := Int.mul_le_mul (by omega) (by omega) (by omega) (by omega)
  omega
theorem bnd_comm (m n : Nat) (P Q : List Int) : bnd m n P Q = bnd m n Q P := by
  unfold bnd
  refine tq_cong (n := n) (fun k hk => ?_) n (Nat.le_refl n)
  have e : (P.getD k 0 - Q.getD k 0) * (P.getD k 0 - Q.getD k 0) = (Q.getD k 0 - P.getD k 0) * (Q.getD k 0 - P.getD k 0) := by grind
  show (P.getD k 0 - Q.getD k 0) * (P.getD k 0 - Q.getD k 0) * _ = (Q.getD k 0 - P.getD k 0) * (Q.getD k 0 - P.getD k 0) * _
  rw [e]
theorem df_both (b : Int) (P Q : List Int) : df (af 1 b P) (af 1 b Q) = df P Q := by
  rw [df_af, Int.sub_self, af_id]
theorem df_one (b : Int) (P Q : List Int) : df (af 1 b P) Q = af 1 b (df P Q) := by
  have := df_af 1 b 0 P Q
  rwa [af_id, Int.sub_zero] at this
theorem cen_one (b : Int) (D : List Int) : cen (af 1 b D) = cen D := by
  unfold cen
  rw [af_su, af_len]
  unfold af
  rw [List.map_map]
  refine List.map_congr_left (fun x _ => ?_)
  show (x * 1 + b) * (D.length : Int) + -(1 * su ix D + (D.length : Int) * b) = x * (D.length : Int) + -su ix D
  grind
/-- four fifths of a sample -/
def fif (a : Int) : Int := (a * 4).tdiv 5
theorem fif_in {a : Int} (h0 : -1000 ≤ a) (h1 : a ≤ 1000) : -800 ≤ fif a ∧ fif a ≤ 800 := by
  unfold fif
  rcases Int.lt_or_le a 0 with h | h
  · have e : (a * 4).tdiv 5 = -((-(a * 4)).tdiv 5) := by rw [Int.neg_tdiv, Int.neg_neg]
    rw [e, Int.tdiv_eq_ediv_of_nonneg (by omega)]
    omega
  · rw [Int.tdiv_eq_ediv_of_nonneg (by omega)]
    omega
theorem own_far {w : World} {base h n c : Nat} {xs : List Value} {e : TypeId} (hown : w.ownsRow base e 1 (.slice (some ⟨h, 0, none⟩) n c) n xs) {p : Addr} (hp : h ≠ p.block) (u : Value) : (w.setCell p u).ownsRow base e 1 (.slice (some ⟨h, 0, none⟩) n c) n xs := by
  refine ⟨hown.1, ?_⟩
  rcases hown.2 with ⟨h0, _⟩ | ⟨g, cap, cur, e1, hb, hg, h1⟩
  · cases h0
  · have e2 := e1
    injection e1 with e1 _ _
    injection e1 with e1
    cases e1
    exact .inr ⟨h, cap, cur, e2, hb, Bk.far (t := e) hg hp u, h1⟩
theorem bel_low {w a b : World} {B : Nat} (h : Bel w a) (hb : Below B a b) (hB : w.heap.size ≤ B) : Bel w b := Below.trans h (Below.mono hb hB)
set_option maxHeartbeats 4000000 in
theorem count_any (g m : Nat) (m2 : 2 ≤ m) (m32 : m ≤ 32) (w : World) (h : Ok w g) :
    Calls Try.prog 29 #[.pointer (some ⟨g, 0, none⟩), .int .i64 (m : Int)] w fun e w' => ∃ n : Nat, e = .returned (.int .i64 (n : Int)) ∧ 1 ≤ n ∧ n ≤ 8 ∧ n ≤ m ∧ Ok w' g ∧ Ch g w w' := by
  have HO := Lib.hid h
  have i1 : 2 ≤ (m : Int) := by omega
  have i2 : (m : Int) ≤ 32 := by omega
  clear h
  go_enter Try.func29, Try.ntmps29
  go_wp2_with fail
  all_goals
    go_at_call 24
    refine (range_any g 1 _ (by omega) (by omega) (by omega) _ HO.out).mono ?_
    rintro e w1 ⟨x, rfl, hx0, hx1, ho, hc⟩
    obtain ⟨n, rfl⟩ := Int.eq_ofNat_of_zero_le (show 0 ≤ x by omega)
    have n8 : n ≤ 8 := by omega
    have nm : n ≤ m := by omega
    have HR := Lib.hid (And.intro n8 (And.intro nm (And.intro ho hc)))
    clear ho hc n8 nm
    go_wp2
    go_ret
    exact ⟨n, rfl, by omega, HR.out.1, HR.out.2.1, HR.out.2.2.1, HR.out.2.2.2⟩
end Go.Proofs.Ytkbpcaggkngpnaa.Pc
