/- The contracts of shapesearchref01.Make and shapesearchref12.Shifted. -/
import Derived.Test.YtekeclapbfjdiaaPieM2
import Derived.Test.YtekeclapbfjdiaaRef01
import Derived.Test.YtekeclapbfjdiaaRef12
import Derived.Test.YtekeclapbfjdiaaEuC
import Derived.Test.YtekeclapbfjdiaaEuE
namespace Go.Proofs.Ytekeclapbfjdiaa.R12
open Go.ChangeShapes Go.WideShapes Go.RowKit Wo Sr Wi Ra Eu
set_option linter.unusedVariables false
set_option maxHeartbeats 1000000 in
theorem rmake_ok (n d : Int) (h0 : 0 ≤ n) (h1 : 1 ≤ d) (h2 : n ≤ 2305843009213693952) (h3 : d ≤ 1152921504606846976) (w : World) :
    Calls Try.prog 44 #[.int .i64 n, .int .i64 d] w fun e w' => ∃ t u, e = .returned (.tuple #[.agg #[.int .i64 t, .int .i64 u], .int .i64 0]) ∧ Vl t u n d ∧ Bel w w' := by
  have hv := vl_make h0 h1 h2 h3
  have b1 : decide (n < 0) = false := by simpa using h0
  have b2 : decide (d < 1) = false := by simpa using h1
  have g1 := gd_pos (a := n) (b := d) (by omega)
  have g2 := gd_le_right (a := n) (b := d) (by omega)
  have g3 : gd n d ≠ 0 := by omega
  have e1 : 0 ≤ n / gd n d := Int.ediv_nonneg h0 (by omega)
  have e2 : 0 ≤ d / gd n d := Int.ediv_nonneg (by omega) (by omega)
  have e3 : n / gd n d ≤ n := Int.ediv_le_self _ h0
  have e4 : d / gd n d ≤ d := Int.ediv_le_self _ (by omega)
  have HV := Lib.hid hv
  clear hv
  go_enter Try.func44, Try.ntmps44
  go_wp2_with (first | (go_at_call 63; refine (common_any _ _ h0 (by omega) _).mono ?_; rintro e w2 ⟨rfl, m, rfl⟩))
  go_region
  go_wp2_with (first | (go_at_call 64; refine (rvalid_ok _ _ HV.out.1 _).mono ?_; rintro e w3 ⟨rfl, hb⟩; obtain ⟨hc, hf⟩ := hb.cells; have hsz := hb.size; have B0 : Bk w3 w.heap.size 37 #[.int .i64 0, .int .i64 0] := (((Bk.nw _ _ _).drwN _).al _).bel hb; have hz0 := B0.lt; have k0 : w3.cell? ⟨w.heap.size, 0, none⟩ = some (.int .i64 0) := B0.cell 0; have k1 : w3.cell? ⟨w.heap.size, 1, none⟩ = some (.int .i64 0) := B0.cell 1))
  refine bodyPost_ret (v := .tuple #[.agg #[.int .i64 (n / gd n d), .int .i64 (d / gd n d)], .int .i64 0]) (by simp [results, Try.results44, go_sem, k0, k1]) rfl ⟨_, _, rfl, HV.out, (by repeat (first | exact Bel.rf | (with_reducible refine Bel.st ?_ (by simp) _) | (with_reducible refine Bel.drwN ?_ _) | (with_reducible refine Bel.drw ?_) | (with_reducible refine Bel.al ?_ _) | refine Bel.tr ?_ (by assumption)))⟩
set_option maxHeartbeats 1000000 in
theorem rshifted_ok (A A' : Option Addr) (c c' n : Nat) (L M : List Int) (n1 : 2 ≤ n) (n2 : n ≤ 32) (hs : Sam L) (ht : Sam M) (w : World) (h1 : Zi w A n L) (h2 : Zi w A' n M) :
    Calls Try.prog 14 #[.slice A n c, .slice A' n c'] w fun e w' => ∃ t u, e = .returned (.tuple #[.agg #[.int .i64 t, .int .i64 u], .int .i64 0]) ∧ Vl t u (vr (df L M)) (n : Int) ∧ Bel w w' := by
  have hl : L.length = M.length := by rw [h1.1, h2.1]
  have hln : (df L M).length = n := by rw [df_len hl, h1.1]
  have bD := df_bd (A := 1000) (B := 1000) hs ht
  have ba := su_bd bD
  have bq := susq_bd bD
  have v0 := vr_nn (df L M)
  have ve : (n : Int) * su sq (df L M) - su id (df L M) * su id (df L M) = vr (df L M) := by unfold vr; rw [hln, su_ix]
  rw [← su_ix] at ba
  rw [hln] at ba bq
  obtain ⟨d, hd⟩ : ∃ d, su id (df L M) = d := ⟨_, rfl⟩
  obtain ⟨s, hs'⟩ : ∃ d, su sq (df L M) = d := ⟨_, rfl⟩
  obtain ⟨v, hv⟩ : ∃ d, vr (df L M) = d := ⟨_, rfl⟩
  rw [hd] at ba ve
  rw [hs'] at bq ve
  rw [hv] at ve v0
  have i1 : 2 ≤ (n : Int) := by omega
  have i2 : (n : Int) ≤ 32 := by omega
  have d2 := sq_bd (B := 64000) (x := d) (by omega) (by omega)
  have p1 : 0 ≤ (n : Int) * s ∧ (n : Int) * s ≤ 32 * 128000000 := ⟨Int.mul_nonneg (by omega) (by omega), Int.mul_le_mul (by omega) (by omega) (by omega) (by omega)⟩
  obtain ⟨X, hX⟩ : ∃ x, (n : Int) * s = x := ⟨_, rfl⟩
  obtain ⟨Y, hY⟩ : ∃ x, d * d = x := ⟨_, rfl⟩
  rw [hX] at p1 ve
  rw [hY] at d2 ve
  have wX : wrap64 X = X := IntWalk.wrap64_in _ (by omega)
  have wY : wrap64 Y = Y := IntWalk.wrap64_in _ (by omega)
  have wV : wrap64 v = v := IntWalk.wrap64_in _ (by omega)
  have MK : Hid (∀ W, _) := fun W => rmake_ok v (n : Int) v0 (by omega) (by omega) (by omega) W
  have T1 : Hid (∀ W, Bel w W → _) := fun W hW => two_ok A A' c c' n L M n1 n2 hs ht W (h1.bel hW) (h2.bel hW)
  have S1 : Hid (∀ W, Bel w W → _) := fun W hW => sums_ok A A' c c' n L M n2 hs ht W (h1.bel hW) (h2.bel hW)
  rw [hd, hs'] at S1
  rw [hv]
  clear h1 h2 hs ht hl hln bD ba bq d2 p1 hd hs' hv v0
  go_enter Try.func14, Try.ntmps14
  have HB0 : Hid (Bel w (w.alloc (.cells #[.int .i64 0, .int .i64 0] 37))) := Bel.rf.al _
  have HR0 : Hid (Bk (w.alloc (.cells #[.int .i64 0, .int .i64 0] 37)) w.heap.size 37 #[.int .i64 0, .int .i64 0]) := Bk.nw _ _ _
  go_wp2_with fail
  go_at_call 41
  refine (T1.out _ HB0.out).mono ?_
  rintro e w1 ⟨rfl, hb1⟩
  have HB1 : Hid (Bel w w1) := HB0.out.tr hb1
  have HR1 := Lib.hid (HR0.out.bel hb1)
  clear hb1
  go_wp2_with fail
  go_at_call 42
  refine (S1.out _ HB1.out).mono ?_
  rintro e w2 ⟨rfl, hb2⟩
  have HB2 : Hid (Bel w w2) := HB1.out.tr hb2
  have HR2 := Lib.hid (HR1.out.bel hb2)
  clear hb2
  go_wp2_with (go_at_call 44; refine (MK.out _).mono ?_; rintro e w9 ⟨t, u, rfl, hv, hb9⟩; have B9 := HR2.out.bel hb9; have q0 := B9.cell 0; have q1 := B9.cell 1; have q2 := B9.fr 0; have q3 := B9.fr 1; have HB9 := Lib.hid B9; clear B9)
  refine bodyPost_ret (v := .tuple #[.agg #[.int .i64 t, .int .i64 u], .int .i64 0]) (Say.results_rt Try.results14 _ _ w.heap.size (.int .i64 t) (.int .i64 u) rfl ((HB9.out.st 0 _).st 1 _)) rfl ?_
  exact ⟨t, u, rfl, hv, ((HB2.out.tr hb9).st (by show w.heap.size ≤ w.heap.size; omega) _).st (by show w.heap.size ≤ w.heap.size; omega) _⟩
end Go.Proofs.Ytekeclapbfjdiaa.R12
