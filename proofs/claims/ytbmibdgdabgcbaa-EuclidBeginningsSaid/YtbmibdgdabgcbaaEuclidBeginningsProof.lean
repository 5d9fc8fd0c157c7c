/- That the law EuclidBeginnings returns true for every input that can be read, and leaves its arguments as they were; no further condition. -/
import Derived.Test.YtbmibdgdabgcbaaRows
import Derived.WalkKit
import Derived.ProofKit
import Derived.OpenShut
import Derived.Test.YtbmibdgdabgcbaaWords
import Derived.Test.YtbmibdgdabgcbaaSrcNew0
import Derived.Test.YtbmibdgdabgcbaaNear
import Derived.Test.YtbmibdgdabgcbaaRef01
import Derived.Test.YtbmibdgdabgcbaaEucBeg
import Derived.Test.YtbmibdgdabgcbaaEucAwake
import Derived.ShutString
import Derived.ChangeOld
import Derived.Below
namespace Go.Proofs.Ytbmibdgdabgcbaa.euclidBeginnings
open Go.ChangeShapes Go.WideShapes Go.ChangeAt Go.RowKit Wo
open Go.ChangeMaps (open_string shut_string)
set_option linter.unusedVariables false

theorem own : ownKnob Try.prog.godebug = none := by kernel_rfl
theorem laidOut : laidOutB Try.prog = true := by kernel_rfl

/-- WHAT THE WALK IS TOLD OF A SLICE OF INTEGERS THAT CAME IN: it is nil; or it leads to a row of 'cap' cells, the numbers 'zs' (the first 'len' are its elements, the rest its spare room), each fitting its kind. -/
def IsRow (k : IntKind) (w : World) (a : Option Addr) (len cap : Nat) (zs : List Int) : Prop :=
  (a = none ∧ len = 0 ∧ cap = 0 ∧ zs = []) ∨
  ∃ x, a = some x ∧ len ≤ cap ∧ cap ≤ maxLen ∧ zs.length = cap ∧ (∀ i, i < zs.length → w.cell? (x.add i) = some (.int k (zs.getD i 0))) ∧ ∀ n ∈ zs, (Lit.int k n).wf = true

theorem own_cap {w : World} {base h n c : Nat} {xs : List Value} {e : TypeId} (hown : w.ownsRow base e 1 (.slice (some ⟨h, 0, none⟩) n c) n xs) : n ≤ c := by
  rcases hown.2 with ⟨h0, _⟩ | ⟨g, cap, cur, e1, hb, hg, h1, _⟩
  · cases h0
  · injection e1 with e1 e2 e3
    subst e3
    exact h1
open Go.Proofs.Ytbmibdgdabgcbaa.Eu Go.Proofs.Ytbmibdgdabgcbaa.Wi Go.Proofs.Ytbmibdgdabgcbaa.Wo Go.Proofs.Ytbmibdgdabgcbaa.Sr Go.Proofs.Ytbmibdgdabgcbaa.Ra in
set_option maxHeartbeats 16000000 in
set_option maxRecDepth 100000 in
theorem walk (a0 : Option Addr) (len0 cap0 : Nat) (z0 : List Int) (a1 : Int) (w : World) (w0 : IsRow .i64 w a0 len0 cap0 z0) (w1 : (Lit.int .u8 a1).wf = true) :
    Calls Try.prog 6 #[.slice a0 len0 cap0, .int .u8 a1] w fun e w' => e = .returned (.bool true) ∧ Below w.heap.size w w' := by
  have b1 := bounds_u8 w1
  obtain ⟨i1, i2⟩ := b1
  have HW := Lib.hid w1
  clear w1
  have AW : Hid (∀ W, Calls Try.prog 14 #[] W fun e w' => e = .returned (.bool true) ∧ Bel W w') := awake_any
  go_enter Try.func6, Try.ntmps6
  go_wp2_with fail
  go_at_call 8
  refine (new_any a0 len0 cap0 z0 w w0).mono ?_
  rintro e v1 ⟨g, rfl, hg, ho1, hb1⟩
  have HO1 := Lib.hid ho1
  have HB1 := Lib.hid hb1
  clear ho1 hb1 w0
  go_wp2_with fail
  go_at_call 9
  refine (pair_any g _ HO1.out).mono ?_
  rintro e v2 ⟨xa, xb, ya, yb, n, L, M, rfl, n1, n2, hxy, hox, hoy, lL, lM, sL, sM, ho2, hc2⟩
  have HO2 := Lib.hid ho2
  have HC2 := Lib.hid hc2
  have HOX := Lib.hid hox
  have HOY := Lib.hid hoy
  have hgv := HO1.out.lt
  have hxv := (hox.lt xa rfl).1
  have hyv := (hoy.lt ya rfl)
  have ni1 : 2 ≤ (n : Int) := by omega
  have ni2 : (n : Int) ≤ 32 := by omega
  have HLL := Lib.hid (And.intro lL (And.intro lM (And.intro sL sM)))
  clear ho2 hc2 hox hoy lL lM sL sM
  have HB2 : Hid (Bel w v2) := Bel.ch HB1.out HC2.out hg
  have hcx := own_cap HOX.out
  have hcy := own_cap HOY.out
  have zx := own_zi HOX.out HLL.out.1
  have zy := own_zi HOY.out HLL.out.2.1
  have m0 := Int.emod_nonneg a1 (b := (n : Int) - 1) (by omega)
  have m1 := Int.emod_lt_of_pos a1 (b := (n : Int) - 1) (by omega)
  have HM : Hid (∀ W, Calls Try.prog 17 #[.int .i64 a1, .int .i64 ((n : Int) - 1)] W fun e w' => e = .returned (.int .i64 (a1 % ((n : Int) - 1))) ∧ W = w') := fun W => mod_any a1 _ (by omega) (by omega) (by omega) (by omega) W
  obtain ⟨r, hr⟩ := Int.eq_ofNat_of_zero_le m0
  rw [hr] at m1 HM
  obtain ⟨k, hk⟩ : ∃ k, 2 + r = k := ⟨_, rfl⟩
  have hki : 2 + (r : Int) = (k : Int) := by omega
  have k2 : 2 ≤ k := by omega
  have kn : k ≤ n := by omega
  have sLk : Sam (L.take k) := HLL.out.2.2.1.take k
  have sMk : Sam (M.take k) := HLL.out.2.2.2.take k
  have sLd : Sam (L.drop k) := HLL.out.2.2.1.drop k
  have sMd : Sam (M.drop k) := HLL.out.2.2.2.drop k
  have hlm : L.length = M.length := by rw [HLL.out.1, HLL.out.2.1]
  have zsub : ∀ (a : Nat) (X : List Int) (W : World), Bel v2 W → Zi v2 (some ⟨a, 0, none⟩) n X → Zi W (some ⟨a, 0, none⟩) k (X.take k) ∧ (k < n → Zi W (some ⟨a, k, none⟩) (n - k) (X.drop k)) := fun a X W hW hz => by
    have h1 := zi_sub (hz.bel hW) 0 k (by omega)
    rw [List.drop_zero] at h1
    refine ⟨h1, fun hkn => ?_⟩
    have h2 := zi_sub (hz.bel hW) k (n - k) (by omega)
    rwa [List.take_of_length_le (by rw [List.length_drop]; have := hz.1; omega)] at h2
  have D1 : Hid (∀ W, Bel v2 W → _) := fun W hW => distance_ok (some ⟨xa, 0, none⟩) (some ⟨ya, 0, none⟩) xb yb k (L.take k) (M.take k) k2 (by omega) sLk sMk W (zsub xa L W hW zx).1 (zsub ya M W hW zy).1
  have D2 : Hid (∀ W, Bel v2 W → _) := fun W hW => distance_ok (some ⟨xa, 0, none⟩) (some ⟨ya, 0, none⟩) xb yb n L M n1 n2 HLL.out.2.2.1 HLL.out.2.2.2 W (zx.bel hW) (zy.bel hW)
  have D3 : Hid (∀ W, Bel v2 W → _) := fun W hW => shifted_ok (some ⟨xa, 0, none⟩) (some ⟨ya, 0, none⟩) xb yb k (L.take k) (M.take k) k2 (by omega) sLk sMk W (zsub xa L W hW zx).1 (zsub ya M W hW zy).1
  have D4 : Hid (∀ W, Bel v2 W → _) := fun W hW => shifted_ok (some ⟨xa, 0, none⟩) (some ⟨ya, 0, none⟩) xb yb n L M n1 n2 HLL.out.2.2.1 HLL.out.2.2.2 W (zx.bel hW) (zy.bel hW)
  have D5 : Hid (k + 2 ≤ n → ∀ W, Bel v2 W → _) := fun hk2 W hW => distance_ok (some ⟨xa, k, none⟩) (some ⟨ya, k, none⟩) (xb - k) (yb - k) (n - k) (L.drop k) (M.drop k) (by omega) (by omega) sLd sMd W ((zsub xa L W hW zx).2 (by omega)) ((zsub ya M W hW zy).2 (by omega))
  rw [df_take] at D1 D3
  rw [df_drop] at D5
  have hsum := su_drop sq (df L M) k
  have hvt := vr_take (df L M) k n (by rw [df_len hlm, HLL.out.1]) kn
  have va := vr_nn ((df L M).take k)
  have vb := vr_nn (df L M)
  have bd := susq_bd (df_bd (A := 1000) (B := 1000) HLL.out.2.2.1 HLL.out.2.2.2)
  rw [df_len hlm, HLL.out.1] at bd
  have nA := susq_nn ((df L M).take k)
  have nB := susq_nn ((df L M).drop k)
  have vle : vr (df L M) ≤ 4096000000 := by
    have q := sq_nn (su ix (df L M))
    have q4 : ((df L M).length : Int) * su sq (df L M) ≤ 32 * 128000000 := Int.mul_le_mul (by rw [df_len hlm, HLL.out.1]; omega) (by omega) (by omega) (by omega)
    unfold vr
    omega
  have vle2 : vr ((df L M).take k) ≤ 4096000000 := by
    have q := sq_nn (su ix ((df L M).take k))
    have q4 : (((df L M).take k).length : Int) * su sq ((df L M).take k) ≤ 32 * 128000000 := Int.mul_le_mul (by rw [List.length_take]; omega) (by omega) (by omega) (by omega)
    unfold vr
    omega
  obtain ⟨a, ha⟩ : ∃ a, su sq ((df L M).take k) = a := ⟨_, rfl⟩
  obtain ⟨b, hb⟩ : ∃ a, su sq (df L M) = a := ⟨_, rfl⟩
  obtain ⟨c, hc⟩ : ∃ a, su sq ((df L M).drop k) = a := ⟨_, rfl⟩
  obtain ⟨U, hU⟩ : ∃ a, vr ((df L M).take k) = a := ⟨_, rfl⟩
  obtain ⟨V, hV⟩ : ∃ a, vr (df L M) = a := ⟨_, rfl⟩
  rw [ha] at D1 hsum nA
  rw [hb] at D2 hsum bd
  rw [hc] at D5 hsum nB
  rw [hU] at D3 hvt va vle2
  rw [hV] at D4 hvt vb vle
  have f1 := make_facts (n := U) (d := (k : Int)) va (by omega) (by omega) (by omega)
  have f2 := make_facts (n := V) (d := (n : Int)) vb (by omega) (by omega) (by omega)
  have g1 := gd_pos (a := U) (b := (k : Int)) (by omega)
  have g2 := gd_pos (a := V) (b := (n : Int)) (by omega)
  have hle := frac_le (a := U / gd U k) (b := (k : Int) / gd U k) (c := V / gd V n) (d := (n : Int) / gd V n) (g := gd U k) (e := gd V n) (by omega) (by omega) f1.2.2.2.2.1 f1.2.2.2.2.2.1 f2.2.2.2.2.1 f2.2.2.2.2.2.1 hvt
  have LS : Hid (∀ W, Calls Try.prog 18 #[.agg #[.int .i64 (V / gd V n), .int .i64 ((n : Int) / gd V n)], .agg #[.int .i64 (U / gd U k), .int .i64 ((k : Int) / gd U k)]] W fun e w' => e = .returned (.bool false) ∧ Bel W w') := rless_no _ _ _ _ f2.2.2.2.2.2.2.1 f1.2.2.2.2.2.2.1 hle
  obtain ⟨U1, hU1⟩ : ∃ a, U / gd U k = a := ⟨_, rfl⟩
  obtain ⟨U2, hU2⟩ : ∃ a, (k : Int) / gd U k = a := ⟨_, rfl⟩
  obtain ⟨V1, hV1⟩ : ∃ a, V / gd V n = a := ⟨_, rfl⟩
  obtain ⟨V2, hV2⟩ : ∃ a, (n : Int) / gd V n = a := ⟨_, rfl⟩
  rw [hU1, hU2] at D3 LS
  rw [hV1, hV2] at D4 LS
  have HALL := Lib.hid (And.intro ha (And.intro hb (And.intro hc (And.intro hU (And.intro hV (And.intro hU1 (And.intro hU2 (And.intro hV1 hV2))))))))
  have hab : a ≤ b := by omega
  have ki : (k : Int) ≤ (n : Int) := by omega
  have kx : (k : Int) ≤ (xb : Int) := by omega
  have ky : (k : Int) ≤ (yb : Int) := by omega
  have nx : (n : Int) ≤ (xb : Int) := by omega
  have ny : (n : Int) ≤ (yb : Int) := by omega
  have b0' : 0 ≤ a ∧ b ≤ 128000000 := by omega
  obtain ⟨a0', b1'⟩ := b0'
  have HK2 := Lib.hid (And.intro k2 kn)
  have HRR := Lib.hid (And.intro hr hk)
  have HSUM := Lib.hid hsum
  clear zx zy m0 hr hk sLk sMk sLd sMd zsub hvt va vb bd nA nB vle vle2 f1 f2 g1 g2 hle ha hb hc hU hV hU1 hU2 hV1 hV2 hsum hxy hcx hcy HOX HOY hxv hyv hgv
  go_wp2_with fail
  go_at_call 17
  refine (HM.out _).mono ?_
  rintro e v ⟨rfl, rfl⟩
  go_wp2_with fail
  go_region_held3 (fun w' => True) (exact trivial)
    (first | (go_at_call 11; (with_reducible refine (D1.out _ (by repeat (first | exact Bel.rf | (with_reducible refine Bel.drwN ?_ _) | (with_reducible refine Bel.drw ?_)))).mono ?_); rintro e p1 ⟨rfl, hp1⟩))
  have H1 : Hid (Bel v2 p1) := (by repeat (first | exact Bel.rf | (with_reducible refine Bel.drwN ?_ _) | (with_reducible refine Bel.drw ?_) | refine Bel.tr ?_ (by assumption)))
  clear hp1
  go_wp2_with fail
  go_at_call 11
  refine (D2.out _ H1.out).mono ?_
  rintro e p2 ⟨rfl, hp⟩
  have H2 := Lib.hid (H1.out.tr hp)
  clear hp
  go_wp2_with fail
  go_region_with (go_at_call 15; (refine (D3.out _ (by repeat (first | exact H2.out | (with_reducible refine Bel.drwN ?_ _) | (with_reducible refine Bel.drw ?_) | (with_reducible refine Bel.al ?_ _)))).mono ?_); rintro e p3 ⟨rfl, hp3⟩; first | (have B3 : Bk p3 p2.heap.size 37 #[.int .i64 0, .int .i64 0] := Bk.bel (Bk.nw p2 37 #[.int .i64 0, .int .i64 0]) hp3; have q0 : p3.cell? ⟨p2.heap.size, 0, none⟩ = some (.int .i64 0) := B3.cell 0; have q1 : p3.cell? ⟨p2.heap.size, 1, none⟩ = some (.int .i64 0) := B3.cell 1; have q2 := B3.fr 0; have q3 := B3.fr 1; have HB3K := Lib.hid B3; clear B3) | (have B3 : Bk p3 p2.heap.size 37 #[.int .i64 0, .int .i64 0] := Bk.bel (Bk.drw (Bk.nw p2 37 #[.int .i64 0, .int .i64 0])) hp3; have q0 : p3.cell? ⟨p2.heap.size, 0, none⟩ = some (.int .i64 0) := B3.cell 0; have q1 : p3.cell? ⟨p2.heap.size, 1, none⟩ = some (.int .i64 0) := B3.cell 1; have q2 := B3.fr 0; have q3 := B3.fr 1; have HB3K := Lib.hid B3; clear B3) | (have B3 : Bk p3 p2.heap.size 37 #[.int .i64 0, .int .i64 0] := Bk.bel (Bk.drwN (Bk.nw p2 37 #[.int .i64 0, .int .i64 0]) _) hp3; have q0 : p3.cell? ⟨p2.heap.size, 0, none⟩ = some (.int .i64 0) := B3.cell 0; have q1 : p3.cell? ⟨p2.heap.size, 1, none⟩ = some (.int .i64 0) := B3.cell 1; have q2 := B3.fr 0; have q3 := B3.fr 1; have HB3K := Lib.hid B3; clear B3) | (have B3 : Bk p3 p2.heap.size 37 #[.int .i64 0, .int .i64 0] := Bk.bel (Bk.nw p2.drew 37 #[.int .i64 0, .int .i64 0]) hp3; have q0 : p3.cell? ⟨p2.heap.size, 0, none⟩ = some (.int .i64 0) := B3.cell 0; have q1 : p3.cell? ⟨p2.heap.size, 1, none⟩ = some (.int .i64 0) := B3.cell 1; have q2 := B3.fr 0; have q3 := B3.fr 1; have HB3K := Lib.hid B3; clear B3) | (have B3 : Bk p3 p2.heap.size 37 #[.int .i64 0, .int .i64 0] := Bk.bel (Bk.drw (Bk.nw p2.drew 37 #[.int .i64 0, .int .i64 0])) hp3; have q0 : p3.cell? ⟨p2.heap.size, 0, none⟩ = some (.int .i64 0) := B3.cell 0; have q1 : p3.cell? ⟨p2.heap.size, 1, none⟩ = some (.int .i64 0) := B3.cell 1; have q2 := B3.fr 0; have q3 := B3.fr 1; have HB3K := Lib.hid B3; clear B3) | skip)
  · skip
    have H3 : Hid (Bel v2 p3) := (by repeat (first | exact H2.out | (with_reducible refine Bel.drwN ?_ _) | (with_reducible refine Bel.drw ?_) | (with_reducible refine Bel.al ?_ _) | refine Bel.tr ?_ hp3))
    clear hp3
    have HU := Lib.hid (Bk.nw p3 37 #[.int .i64 U1, .int .i64 U2])
    have HQ : Hid (Bel v2 (p3.alloc (.cells #[.int .i64 U1, .int .i64 U2] 37))) := H3.out.al _
    go_wp2_with fail
    go_at_call 15
    refine (D4.out _ HQ.out).mono ?_
    rintro e p4 ⟨rfl, hp⟩
    have HU4 := HU.out.bel hp
    have H4 : Hid (Bel v2 p4) := HQ.out.tr hp
    have y0 : p4.cell? ⟨p3.heap.size, 0, none⟩ = some (.int .i64 U1) := HU4.cell 0
    have y1 : p4.cell? ⟨p3.heap.size, 1, none⟩ = some (.int .i64 U2) := HU4.cell 1
    have y2 : ∀ o, (p4.alloc o).cell? ⟨p3.heap.size, 0, none⟩ = some (.int .i64 U1) := fun o => kp_al y0 o
    have y3 : ∀ o, (p4.alloc o).cell? ⟨p3.heap.size, 1, none⟩ = some (.int .i64 U2) := fun o => kp_al y1 o
    clear hp HU4 y0 y1
    go_wp2_with fail
    go_at_call 18
    refine (LS.out _).mono ?_
    rintro e p5 ⟨rfl, hp⟩
    have H5 : Hid (Bel v2 p5) := (H4.out.al _).tr hp
    clear hp y2 y3
    rcases Nat.lt_or_ge n (k + 2) with hn2 | hn2
    · have hn3 : (n : Int) - (k : Int) < 2 := by omega
      go_wp2_with (go_at_call 14; refine (AW.out _).mono ?_; rintro e w9 ⟨rfl, hb9⟩)
      go_ret
      exact ⟨rfl, ((HB2.out.tr H5.out).tr hb9).bl⟩
    · have hn3 : 2 ≤ (n : Int) - (k : Int) := by omega
      have D6 := Lib.hid (D5.out hn2)
      have hs : a + c = b := HSUM.out
      have hxk : ¬ (xb = k) := by omega
      have hyk : ¬ (yb = k) := by omega
      have hxk2 : (xb == k) = false := by simpa using hxk
      have hyk2 : (yb == k) = false := by simpa using hyk
      have wb : IntKind.i64.wrap b = b := IntWalk.i64_in _ (by omega)
      have wb2 : wrap64 b = b := IntWalk.wrap64_in _ (by omega)
      go_wp2_with fail
      go_region_held3 (fun w' => True) (exact trivial)
        (first | (go_at_call 11; (with_reducible refine (D6.out _ (by repeat (first | exact H5.out | (with_reducible refine Bel.drwN ?_ _) | (with_reducible refine Bel.drw ?_)))).mono ?_); rintro e p6 ⟨rfl, hp6⟩))
      have H6 : Hid (Bel v2 p6) := (by repeat (first | exact H5.out | (with_reducible refine Bel.drwN ?_ _) | (with_reducible refine Bel.drw ?_) | refine Bel.tr ?_ hp6))
      clear hp6
      go_wp2_with (go_at_call 14; refine (AW.out _).mono ?_; rintro e w9 ⟨rfl, hb9⟩)
      go_ret
      exact ⟨rfl, ((HB2.out.tr H6.out).tr hb9).bl⟩
  · skip
    have H3 : Hid (Bel v2 p3) := (by repeat (first | exact H2.out | (with_reducible refine Bel.drwN ?_ _) | (with_reducible refine Bel.drw ?_) | (with_reducible refine Bel.al ?_ _) | refine Bel.tr ?_ hp3))
    clear hp3
    have hpz := H2.out.size
    have HU : Hid (Bk ((p3.setCell ⟨p2.heap.size, 0, none⟩ (.int .i64 U1)).setCell ⟨p2.heap.size, 1, none⟩ (.int .i64 U2)) p2.heap.size 37 #[.int .i64 U1, .int .i64 U2]) := (HB3K.out.st 0 (.int .i64 U1)).st 1 (.int .i64 U2)
    have HQ : Hid (Bel v2 ((p3.setCell ⟨p2.heap.size, 0, none⟩ (.int .i64 U1)).setCell ⟨p2.heap.size, 1, none⟩ (.int .i64 U2))) := (H3.out.st (by show _ ≤ p2.heap.size; exact hpz) _).st (by show _ ≤ p2.heap.size; exact hpz) _
    clear q0 q1 q2 q3
    go_wp2_with fail
    go_at_call 15
    refine (D4.out _ HQ.out).mono ?_
    rintro e p4 ⟨rfl, hp⟩
    have HU4 := HU.out.bel hp
    have H4 : Hid (Bel v2 p4) := HQ.out.tr hp
    have y0 : p4.cell? ⟨p2.heap.size, 0, none⟩ = some (.int .i64 U1) := HU4.cell 0
    have y1 : p4.cell? ⟨p2.heap.size, 1, none⟩ = some (.int .i64 U2) := HU4.cell 1
    have y2 : ∀ o, (p4.alloc o).cell? ⟨p2.heap.size, 0, none⟩ = some (.int .i64 U1) := fun o => kp_al y0 o
    have y3 : ∀ o, (p4.alloc o).cell? ⟨p2.heap.size, 1, none⟩ = some (.int .i64 U2) := fun o => kp_al y1 o
    clear hp HU4 y0 y1
    go_wp2_with fail
    go_at_call 18
    refine (LS.out _).mono ?_
    rintro e p5 ⟨rfl, hp⟩
    have H5 : Hid (Bel v2 p5) := (H4.out.al _).tr hp
    clear hp y2 y3
    rcases Nat.lt_or_ge n (k + 2) with hn2 | hn2
    · have hn3 : (n : Int) - (k : Int) < 2 := by omega
      go_wp2_with (go_at_call 14; refine (AW.out _).mono ?_; rintro e w9 ⟨rfl, hb9⟩)
      go_ret
      exact ⟨rfl, ((HB2.out.tr H5.out).tr hb9).bl⟩
    · have hn3 : 2 ≤ (n : Int) - (k : Int) := by omega
      have D6 := Lib.hid (D5.out hn2)
      have hs : a + c = b := HSUM.out
      have hxk : ¬ (xb = k) := by omega
      have hyk : ¬ (yb = k) := by omega
      have hxk2 : (xb == k) = false := by simpa using hxk
      have hyk2 : (yb == k) = false := by simpa using hyk
      have wb : IntKind.i64.wrap b = b := IntWalk.i64_in _ (by omega)
      have wb2 : wrap64 b = b := IntWalk.wrap64_in _ (by omega)
      go_wp2_with fail
      go_region_held3 (fun w' => True) (exact trivial)
        (first | (go_at_call 11; (with_reducible refine (D6.out _ (by repeat (first | exact H5.out | (with_reducible refine Bel.drwN ?_ _) | (with_reducible refine Bel.drw ?_)))).mono ?_); rintro e p6 ⟨rfl, hp6⟩))
      have H6 : Hid (Bel v2 p6) := (by repeat (first | exact H5.out | (with_reducible refine Bel.drwN ?_ _) | (with_reducible refine Bel.drw ?_) | refine Bel.tr ?_ hp6))
      clear hp6
      go_wp2_with (go_at_call 14; refine (AW.out _).mono ?_; rintro e w9 ⟨rfl, hb9⟩)
      go_ret
      exact ⟨rfl, ((HB2.out.tr H6.out).tr hb9).bl⟩

set_option maxRecDepth 100000 in
theorem lifted (os : Os) (started : os.Started) (H : Type) (enc : TypeId × Value → H) :
    ReturnsInHanded {} Try.checked os 6 .any (Rows.euclidBeginningsSpec.pre6 enc Try.prog Try.f6 Rows.euclidBeginningsRow.domain false) (Rows.euclidBeginningsSpec.post enc Try.prog Try.f6 false true false false) := by
  refine returnsInHanded_of_change (C := Try.checked) own started (by kernel_rfl) Try.func6
    (ChangeSpec.witness6 (enc := enc) (C := Try.checked) false ⟨#[], #[.slice none 0 0, .int .u8 0], []⟩ 8 (by kernel_rfl) (by kernel_rfl) (by kernel_rfl) (by kernel_rfl)) ?_
  intro W base args ds gs before hval0 hW hcnd _
  have hval : ∀ (j : Nat) t v, Try.f6.params[j]? = some t → args[j]? = some v → Value.okWide Try.prog W .any base t v := hval0
  have hW' := hW
  obtain ⟨p, q, hA0, hV, rfl, hfz, hnd⟩ := hW
  have hA : DataW.TrodAll enc Try.prog W 0 (fun _ => true) true Try.f6.params.toList args.toList ds p := hA0
  rw [Try.params6] at hA hval
  obtain ⟨v0, vs0, d0, ds0, p0, q0, hargs, rfl, rfl, h0, r0⟩ := trodAll_cons hA
  obtain ⟨v1, vs1, d1, ds1, p1, q1, rfl, rfl, rfl, h1, r1⟩ := trodAll_cons r0
  obtain ⟨rfl, rfl, rfl⟩ := trodAll_nil r1
  obtain rfl : args = #[v0, v1] := by cases args; simp_all
  obtain ⟨rfl, rfl⟩ := trodVars_none hV
  obtain ⟨a0, len0, cap0, rfl⟩ := okWide_slice Try.underlying22 (hval 0 22 v0 rfl rfl)
  have k0 := h0
  have lt0 : ∀ x ∈ p0, x.block < W.heap.size := by obtain ⟨m, hm⟩ := k0; exact DataW.trod_lt m _ _ _ hm
  obtain ⟨z0, w0⟩ : ∃ zs, IsRow .i64 W a0 len0 cap0 zs := by
    obtain ⟨fuel, hf⟩ := h0
    rcases open_ints Try.underlying22 Try.underlying3 (by kernel_rfl) hf with ⟨hcs, _⟩ | ⟨x, l, c, zs, hcs, _, hl, hm, hz, _, hcell, hwz⟩
    · simp [Value.cells] at hcs
      obtain ⟨rfl, rfl, rfl⟩ := hcs
      exact ⟨[], .inl ⟨rfl, rfl, rfl, rfl⟩⟩
    · simp [Value.cells] at hcs
      obtain ⟨rfl, rfl, rfl⟩ := hcs
      exact ⟨zs, .inr ⟨_, rfl, hl, hm, by simpa using hz, hcell, hwz⟩⟩
  obtain ⟨a1, rfl, rfl, rfl, w1⟩ := open_int Try.underlying5 (hval 1 5 v1 rfl rfl) h1
  clear hA0 hval0
  refine (walk a0 len0 cap0 z0 a1 W w0 w1).mono fun e W' ⟨he, bel⟩ => ?_
  subst he
  exact ⟨_, rfl, _, _, _, [], _, [], hW', trodAll_mk1 (shut_bool Try.underlying4 _), (trodAll_cons_mk (Below.trod laidOut (by kernel_rfl) (of_decide_eq_true (by kernel_rfl)) k0 bel lt0) (trodAll_cons_mk (shut_int Try.underlying5 w1) trodAll_mk0)), rfl, bel.frame _, fun h => by cases h⟩

theorem over : Rows.euclidBeginningsRow.holds Try.pinned (OpenSpec.ofChange Rows.euclidBeginningsSpec) :=
  OpenClaim.holds_of_wide 6 Try.f6 rfl rfl rfl rfl rfl rfl rfl ⟨rfl, rfl, rfl, rfl, rfl⟩ rfl rfl rfl rfl rfl (by kernel_rfl) Try.func6 (by kernel_rfl)
    (of_decide_eq_true (by kernel_rfl)) (by unfold Func.isWrapper; first | (rw [if_pos (by decide +kernel)]; kernel_rfl) | (rw [if_neg (by decide +kernel)]; exact ⟨rfl, rfl⟩))
    (fun os started H enc _ => lifted os started H enc)

theorem proved : Rows.EuclidBeginningsSaid := over
end Go.Proofs.Ytbmibdgdabgcbaa.euclidBeginnings
