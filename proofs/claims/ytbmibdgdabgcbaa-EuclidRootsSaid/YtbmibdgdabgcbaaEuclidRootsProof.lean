/- That the law EuclidRoots returns true for every input that can be read, and leaves its arguments as they were; no further condition. -/
import Derived.Test.YtbmibdgdabgcbaaRows
import Derived.WalkKit
import Derived.ProofKit
import Derived.OpenShut
import Derived.Test.YtbmibdgdabgcbaaWords
import Derived.Test.YtbmibdgdabgcbaaSrcNew0
import Derived.Test.YtbmibdgdabgcbaaNear
import Derived.Test.YtbmibdgdabgcbaaEucAwake
import Derived.ShutString
import Derived.ChangeOld
import Derived.Below
namespace Go.Proofs.Ytbmibdgdabgcbaa.euclidRoots
open Go.ChangeShapes Go.WideShapes Go.ChangeAt Go.RowKit Wo
open Go.ChangeMaps (open_string shut_string)
set_option linter.unusedVariables false

theorem own : ownKnob Try.prog.godebug = none := by kernel_rfl
theorem laidOut : laidOutB Try.prog = true := by kernel_rfl

/-- WHAT THE WALK IS TOLD OF A SLICE OF INTEGERS THAT CAME IN: it is nil; or it leads to a row of 'cap' cells, the numbers 'zs' (the first 'len' are its elements, the rest its spare room), each fitting its kind. -/
def IsRow (k : IntKind) (w : World) (a : Option Addr) (len cap : Nat) (zs : List Int) : Prop :=
  (a = none ∧ len = 0 ∧ cap = 0 ∧ zs = []) ∨
  ∃ x, a = some x ∧ len ≤ cap ∧ cap ≤ maxLen ∧ zs.length = cap ∧ (∀ i, i < zs.length → w.cell? (x.add i) = some (.int k (zs.getD i 0))) ∧ ∀ n ∈ zs, (Lit.int k n).wf = true

section
open Go.Proofs.Ytbmibdgdabgcbaa.Wi Go.Proofs.Ytbmibdgdabgcbaa.Wo Go.Proofs.Ytbmibdgdabgcbaa.Sr
def fth (a : Int) : Int := a.tdiv 5
theorem fth_in {a : Int} (h0 : -1000 ≤ a) (h1 : a ≤ 1000) : -200 ≤ fth a ∧ fth a ≤ 200 := by
  unfold fth
  rcases Int.lt_or_le a 0 with h | h
  · have e : a.tdiv 5 = -((-a).tdiv 5) := by rw [Int.neg_tdiv, Int.neg_neg]
    rw [e, Int.tdiv_eq_ediv_of_nonneg (by omega)]
    omega
  · rw [Int.tdiv_eq_ediv_of_nonneg (by omega)]
    omega
def mixf (L : List Int) (t : Nat) : List Int := (L.map fth).take t ++ L.drop t
theorem mixf_len (L : List Int) (t : Nat) : (mixf L t).length = L.length := by simp [mixf]; omega
theorem mixf_at (L : List Int) (t : Nat) (h : t < L.length) : (mixf L t).getD t 0 = L.getD t 0 := by
  simp only [mixf, List.getD_eq_getElem?_getD]
  rw [List.getElem?_append_right (by simp; omega)]
  simp [List.length_take, Nat.min_eq_left (Nat.le_of_lt h)]
theorem mixf_set (L : List Int) (t : Nat) (h : t < L.length) : (mixf L t).set t (fth (L.getD t 0)) = mixf L (t + 1) := by
  unfold mixf
  have e : L.drop t = L.getD t 0 :: L.drop (t + 1) := by
    rw [List.drop_eq_getElem_cons h, List.getD_eq_getElem?_getD, List.getElem?_eq_getElem h]; rfl
  rw [e, List.set_append_right _ _ (by simp; omega)]
  have e2 : t - ((L.map fth).take t).length = 0 := by simp; omega
  rw [e2, List.set_cons_zero, take_snoc (L.map fth) t (by simpa using h), List.append_assoc]
  congr 2
  simp [List.getD_eq_getElem?_getD, h]
theorem mixf_all (L : List Int) (n : Nat) (h : L.length = n) : mixf L n = L.map fth := by
  unfold mixf
  rw [List.drop_of_length_le (by omega), List.append_nil]
  exact List.take_of_length_le (by simp; omega)
theorem fth_bd {L : List Int} (h : Sam L) : Bd 200 (L.map fth) := fun x hx => by
  obtain ⟨a, ha, rfl⟩ := List.mem_map.1 hx
  have := h a ha
  exact fth_in this.1 this.2
theorem fth_sam {L : List Int} (h : Sam L) : Sam (L.map fth) := fun x hx => by
  have := fth_bd h x hx
  omega
/-- t samples of the three windows have been divided -/
def RI (L M N : List Int) (n xa xb ya yb za zb B1 B2 : Nat) (w : World) (s34 : Value) (wr : World) : Prop := ∃ (t : Nat) (V : World), V = wr ∧ t ≤ n ∧ s34 = .int .i64 (t : Int) ∧
  wr.ownsRow B1 3 1 (.slice (some ⟨xa, 0, none⟩) n xb) n (zs (mixf L t)) ∧ wr.ownsRow B1 3 1 (.slice (some ⟨ya, 0, none⟩) n yb) n (zs (mixf M t)) ∧ wr.ownsRow B2 3 1 (.slice (some ⟨za, 0, none⟩) n zb) n (zs (mixf N t)) ∧ Bel w wr
theorem ri_step {L M N : List Int} {n xa xb ya yb za zb B1 B2 t : Nat} {w wr : World} {x y z : Int} (ht : t < n) (lL : L.length = n) (lM : M.length = n) (lN : N.length = n) (hxy : xa ≠ ya) (hxz : xa ≠ za) (hyz : ya ≠ za) (wx : w.heap.size ≤ xa) (wy : w.heap.size ≤ ya) (wz : w.heap.size ≤ za)
    (ex : fth (L.getD t 0) = x) (ey : fth (M.getD t 0) = y) (ez : fth (N.getD t 0) = z)
    (hx : wr.ownsRow B1 3 1 (.slice (some ⟨xa, 0, none⟩) n xb) n (zs (mixf L t))) (hy : wr.ownsRow B1 3 1 (.slice (some ⟨ya, 0, none⟩) n yb) n (zs (mixf M t))) (hz : wr.ownsRow B2 3 1 (.slice (some ⟨za, 0, none⟩) n zb) n (zs (mixf N t))) (hb : Bel w wr) :
    RI L M N n xa xb ya yb za zb B1 B2 w (.int .i64 ((t : Int) + 1)) (((wr.setCell ⟨xa, t, none⟩ (.int .i64 x)).setCell ⟨ya, t, none⟩ (.int .i64 y)).setCell ⟨za, t, none⟩ (.int .i64 z)) := by
  refine ⟨t + 1, _, rfl, by omega, by congr 1, ?_, ?_, ?_, ?_⟩
  · have h1 := own_set (t := t) hx x
    rw [← ex, mixf_set L t (by omega), ex] at h1
    exact ownsRow_setCell_other (ownsRow_setCell_other h1 (by intro e; injection e with e; exact hxy e) _) (by intro e; injection e with e; exact hxz e) _
  · have h1 := own_set (t := t) (ownsRow_setCell_other hy (a := ⟨xa, t, none⟩) (by intro e; injection e with e; exact hxy e.symm) (.int .i64 x)) y
    rw [← ey, mixf_set M t (by omega), ey] at h1
    exact ownsRow_setCell_other h1 (by intro e; injection e with e; exact hyz e) _
  · have h1 := own_set (t := t) (ownsRow_setCell_other (ownsRow_setCell_other hz (a := ⟨xa, t, none⟩) (by intro e; injection e with e; exact hxz e.symm) (.int .i64 x)) (a := ⟨ya, t, none⟩) (by intro e; injection e with e; exact hyz e.symm) (.int .i64 y)) z
    rw [← ez, mixf_set N t (by omega), ez] at h1
    exact h1
  · exact ((hb.st wx _).st wy _).st wz _
theorem RI.drwN {L M N : List Int} {n xa xb ya yb za zb B1 B2 : Nat} {w wr : World} {s : Value} (h : RI L M N n xa xb ya yb za zb B1 B2 w s wr) (q : Nat) : RI L M N n xa xb ya yb za zb B1 B2 w s (wr.drewN q) := by
  obtain ⟨t, V, rfl, h1, h2, h3, h4, h5, h6⟩ := h
  exact ⟨t, _, rfl, h1, h2, own_bel h3 (Bel.rf.drwN q), own_bel h4 (Bel.rf.drwN q), own_bel h5 (Bel.rf.drwN q), h6.drwN q⟩
end
open Go.Proofs.Ytbmibdgdabgcbaa.Eu Go.Proofs.Ytbmibdgdabgcbaa.Wi Go.Proofs.Ytbmibdgdabgcbaa.Wo Go.Proofs.Ytbmibdgdabgcbaa.Sr Go.Proofs.Ytbmibdgdabgcbaa.Ra in
set_option maxHeartbeats 16000000 in
set_option maxRecDepth 100000 in
theorem walk (a0 : Option Addr) (len0 cap0 : Nat) (z0 : List Int) (w : World) (w0 : IsRow .i64 w a0 len0 cap0 z0) :
    Calls Try.prog 5 #[.slice a0 len0 cap0] w fun e w' => e = .returned (.bool true) ∧ Below w.heap.size w w' := by
  have AW : Hid (∀ W, Calls Try.prog 14 #[] W fun e w' => e = .returned (.bool true) ∧ Bel W w') := awake_any
  go_enter Try.func5, Try.ntmps5
  go_wp2_with fail
  go_at_call 8
  refine (new_any a0 len0 cap0 z0 w w0).mono ?_
  rintro e v1 ⟨g, rfl, hg, ho1, hb1⟩
  have HO1 := Lib.hid ho1
  have HB1 := Lib.hid hb1
  clear ho1 hb1 w0
  go_wp2_with fail
  go_at_call 9
  refine (pair_any g _ HO1.out).mono ?_
  rintro e v2 ⟨xa, xb, ya, yb, n, L, M, rfl, n1, n2, hxy, hox, hoy, lL, lM, sL, sM, ho2, hc2⟩
  have HO2 := Lib.hid ho2
  have HC2 := Lib.hid hc2
  have HOX := Lib.hid hox
  have HOY := Lib.hid hoy
  have hgv := HO1.out.lt
  have hxv := (hox.lt xa rfl).1
  have hyv := (hoy.lt ya rfl)
  have ni1 : 2 ≤ (n : Int) := by omega
  have ni2 : (n : Int) ≤ 32 := by omega
  have HLL := Lib.hid (And.intro lL (And.intro lM (And.intro sL sM)))
  clear ho2 hc2 hox hoy lL lM sL sM
  go_wp2_with fail
  go_at_call 10
  refine (near_any g (some ⟨ya, 0, none⟩) yb n M (by omega) (by omega) HLL.out.2.2.2 _ HO2.out (own_zi HOY.out HLL.out.2.1) (fun ad e => by cases e; show ya ≠ g; omega)).mono ?_
  rintro e v3 ⟨vz, N, rfl, hoz, lN, sN, ho3, hc3⟩
  obtain ⟨za, zb, rfl, hzc, hzb⟩ := row_form hoz (by omega)
  have HB3 : Hid (Bel w v3) := Bel.ch (Bel.ch HB1.out HC2.out hg) hc3 hg
  have HX3 := Lib.hid (own_ch HOX.out hc3 hgv)
  have HY3 := Lib.hid (own_ch HOY.out hc3 hgv)
  have HZ3 := Lib.hid hoz
  have HLN := Lib.hid (And.intro lN sN)
  have hyv3 := hyv.2
  have hyl := hyv.1
  clear ho3 hc3 hoz lN sN HOX HOY
  have hxz : xa ≠ za := by omega
  have hyz : ya ≠ za := by omega
  have hxy2 : xa ≠ ya := by omega
  have hwv := HB1.out.size
  have hw1 : w.heap.size ≤ xa := by omega
  have hw2 : w.heap.size ≤ ya := by omega
  have hw3 : w.heap.size ≤ za := by omega
  have HNE := Lib.hid (And.intro hxz (And.intro hyz (And.intro hxy2 (And.intro hw1 (And.intro hw2 hw3)))))
  have HR0 : Hid (RI L M N n xa xb ya yb za zb v1.heap.size v2.heap.size w (.int .i64 0) v3) := ⟨0, _, rfl, by omega, rfl, by simpa [mixf] using HX3.out, by simpa [mixf] using HY3.out, by simpa [mixf] using HZ3.out, HB3.out⟩
  clear HX3 HY3 HZ3 hxz hyz hxy hxy2 hw1 hw2 hw3 hwv hxv hyv hyv3 hyl hzc hzb hgv
  go_wp2
  go_loopw [34] (fun s34 wr => RI L M N n xa xb ya yb za zb v1.heap.size v2.heap.size w s34 wr) (fun s34 _ => n - (intOf s34).toNat)
  case atStart => exact HR0.out
  case round =>
    clear HR0
    obtain ⟨t, wr, hwr, ht, rfl, hx, hy, hz, hb⟩ := hrel
    subst hwr
    have HX := Lib.hid hx
    have HY := Lib.hid hy
    have HZ := Lib.hid hz
    have HB := Lib.hid hb
    rcases Nat.lt_or_ge t n with hlt | hge
    · have c1 := (own_zi hx (by rw [mixf_len]; exact HLL.out.1)).at t hlt
      have c2 := (own_zi hy (by rw [mixf_len]; exact HLL.out.2.1)).at t hlt
      have c3 := (own_zi hz (by rw [mixf_len]; exact HLN.out.1)).at t hlt
      rw [mixf_at L t (by have := HLL.out.1; omega)] at c1
      rw [mixf_at M t (by have := HLL.out.2.1; omega)] at c2
      rw [mixf_at N t (by have := HLN.out.1; omega)] at c3
      have f1 := own_fr hx t
      have f2 := own_fr hy t
      have f3 := own_fr hz t
      have p1 := HLL.out.2.2.1.at t
      have p2 := HLL.out.2.2.2.at t
      have p3 := HLN.out.2.at t
      obtain ⟨u1, hu1⟩ : ∃ u, L.getD t 0 = u := ⟨_, rfl⟩
      obtain ⟨u2, hu2⟩ : ∃ u, M.getD t 0 = u := ⟨_, rfl⟩
      obtain ⟨u3, hu3⟩ : ∃ u, N.getD t 0 = u := ⟨_, rfl⟩
      rw [hu1] at c1 p1
      rw [hu2] at c2 p2
      rw [hu3] at c3 p3
      have q1 := fth_in p1.1 p1.2
      have q2 := fth_in p2.1 p2.2
      have q3 := fth_in p3.1 p3.2
      obtain ⟨y1, hy1⟩ : ∃ u, fth u1 = u := ⟨_, rfl⟩
      obtain ⟨y2, hy2⟩ : ∃ u, fth u2 = u := ⟨_, rfl⟩
      obtain ⟨y3, hy3⟩ : ∃ u, fth u3 = u := ⟨_, rfl⟩
      have d1 : u1.tdiv 5 = y1 := hy1
      have d2 : u2.tdiv 5 = y2 := hy2
      have d3 : u3.tdiv 5 = y3 := hy3
      rw [hy1] at q1
      rw [hy2] at q2
      rw [hy3] at q3
      have w1 : IntKind.i64.wrap y1 = y1 := IntWalk.i64_in _ (by omega)
      have w2 : IntKind.i64.wrap y2 = y2 := IntWalk.i64_in _ (by omega)
      have w3 : IntKind.i64.wrap y3 = y3 := IntWalk.i64_in _ (by omega)
      have HYS : Hid (fth (L.getD t 0) = y1 ∧ fth (M.getD t 0) = y2 ∧ fth (N.getD t 0) = y3) := ⟨by rw [hu1, hy1], by rw [hu2, hy2], by rw [hu3, hy3]⟩
      have n1 : xa ≠ ya := HNE.out.2.2.1
      have n2 : xa ≠ za := HNE.out.1
      have n3 : ya ≠ za := HNE.out.2.1
      have ti : (t : Int) < (n : Int) := by omega
      have hst := ri_step (wr := wr) hlt HLL.out.1 HLL.out.2.1 HLN.out.1 n1 n2 n3 HNE.out.2.2.2.1 HNE.out.2.2.2.2.1 HNE.out.2.2.2.2.2 HYS.out.1 HYS.out.2.1 HYS.out.2.2 HX.out HY.out HZ.out HB.out
      have HST := Lib.hid hst
      clear hx hy hz hb hu1 hu2 hu3 hy1 hy2 hy3 hst q1 q2 q3 p1 p2 p3
      go_wp2
      go_region
      all_goals
        go_wp2
        go_roundw
        case rel => first | exact HST.out | exact HST.out.drwN _ | exact HST.out.drwN 1
        case measure => simp [intOf]; omega
    · obtain rfl : t = n := by omega
      have eX := mixf_all L t HLL.out.1
      have eY := mixf_all M t HLL.out.2.1
      have eZ := mixf_all N t HLN.out.1
      rw [eX] at hx
      rw [eY] at hy
      rw [eZ] at hz
      have sP := fth_sam HLL.out.2.2.1
      have sQ := fth_sam HLL.out.2.2.2
      have sR := fth_sam HLN.out.2
      have bP := fth_bd HLL.out.2.2.1
      have bQ := fth_bd HLL.out.2.2.2
      have bR := fth_bd HLN.out.2
      obtain ⟨P, hP⟩ : ∃ P, L.map fth = P := ⟨_, rfl⟩
      obtain ⟨Q, hQ⟩ : ∃ P, M.map fth = P := ⟨_, rfl⟩
      obtain ⟨R, hR⟩ : ∃ P, N.map fth = P := ⟨_, rfl⟩
      rw [hP] at hx sP bP
      rw [hQ] at hy sQ bQ
      rw [hR] at hz sR bR
      have lP : P.length = t := by rw [← hP]; simpa using HLL.out.1
      have lQ : Q.length = t := by rw [← hQ]; simpa using HLL.out.2.1
      have lR : R.length = t := by rw [← hR]; simpa using HLN.out.1
      have zx := own_zi hx lP
      have zy := own_zi hy lQ
      have zz := own_zi hz lR
      have S1 : Hid (∀ W, Bel wr W → _) := fun W hW => shifted_ok (some ⟨xa, 0, none⟩) (some ⟨ya, 0, none⟩) xb yb t P Q (by omega) (by omega) sP sQ W (zx.bel hW) (zy.bel hW)
      have S2 : Hid (∀ W, Bel wr W → _) := fun W hW => shifted_ok (some ⟨ya, 0, none⟩) (some ⟨za, 0, none⟩) yb zb t Q R (by omega) (by omega) sQ sR W (zy.bel hW) (zz.bel hW)
      have S3 : Hid (∀ W, Bel wr W → _) := fun W hW => shifted_ok (some ⟨xa, 0, none⟩) (some ⟨za, 0, none⟩) xb zb t P R (by omega) (by omega) sP sR W (zx.bel hW) (zz.bel hW)
      have S4 : Hid (∀ W, Bel wr W → _) := fun W hW => shifted_ok (some ⟨ya, 0, none⟩) (some ⟨xa, 0, none⟩) yb xb t Q P (by omega) (by omega) sQ sP W (zy.bel hW) (zx.bel hW)
      have S5 : Hid (∀ W, Bel wr W → _) := fun W hW => distance_ok (some ⟨xa, 0, none⟩) (some ⟨ya, 0, none⟩) xb yb t P Q (by omega) (by omega) sP sQ W (zx.bel hW) (zy.bel hW)
      have hpq : P.length = Q.length := by rw [lP, lQ]
      have hqr : Q.length = R.length := by rw [lQ, lR]
      rw [vr_swap P Q hpq] at S4
      have T := shift_tri P Q R hpq hqr
      have bnd : ∀ (X Y : List Int), Bd 200 X → Bd 200 Y → X.length = t → X.length = Y.length → 0 ≤ vr (df X Y) ∧ vr (df X Y) ≤ 163840000 ∧ 0 ≤ su sq (df X Y) ∧ su sq (df X Y) ≤ 5120000 ∧ vr (df X Y) ≤ su sq (df X Y) * (t : Int) := fun X Y hX hY hl hl2 => by
        have b := susq_bd (df_bd (A := 200) (B := 200) hX hY)
        rw [df_len hl2, hl] at b
        have v := vr_nn (df X Y)
        have q := sq_nn (su ix (df X Y))
        have e : vr (df X Y) = su sq (df X Y) * (t : Int) - su ix (df X Y) * su ix (df X Y) := by unfold vr; rw [df_len hl2, hl]; grind
        have m : su sq (df X Y) * (t : Int) ≤ 5120000 * 32 := Int.mul_le_mul (by omega) (by omega) (by omega) (by omega)
        omega
      have b1 := bnd P Q bP bQ lP hpq
      have b2 := bnd Q R bQ bR lQ hqr
      have b3 := bnd P R bP bR lP (hpq.trans hqr)
      obtain ⟨VA, hVA⟩ : ∃ a, vr (df P Q) = a := ⟨_, rfl⟩
      obtain ⟨VB, hVB⟩ : ∃ a, vr (df Q R) = a := ⟨_, rfl⟩
      obtain ⟨VC, hVC⟩ : ∃ a, vr (df P R) = a := ⟨_, rfl⟩
      obtain ⟨DD, hDD⟩ : ∃ a, su sq (df P Q) = a := ⟨_, rfl⟩
      rw [hVA] at S1 S4 T b1
      rw [hVB] at S2 T b2
      rw [hVC] at S3 T b3
      rw [hDD] at S5 b1
      obtain ⟨va0, va1, dd0, dd1, vad⟩ := b1
      obtain ⟨vb0, vb1, -, -, -⟩ := b2
      obtain ⟨vc0, vc1, -, -, -⟩ := b3
      have HDEF := Lib.hid (And.intro hP (And.intro hQ (And.intro hR (And.intro hVA (And.intro hVB (And.intro hVC hDD))))))
      have HF := Lib.hid hb
      clear hx hy hz eX eY eZ sP sQ sR bP bQ bR hP hQ hR lP lQ lR zx zy zz hpq hqr bnd hVA hVB hVC hDD hb HX HY HZ
      have fa := make_facts (n := VA) (d := (t : Int)) va0 (by omega) (by omega) (by omega)
      have ga := gd_pos (a := VA) (b := (t : Int)) (by omega)
      obtain ⟨GA, hGA⟩ : ∃ a, gd VA (t : Int) = a := ⟨_, rfl⟩
      rw [hGA] at fa ga
      obtain ⟨A1, hA1⟩ : ∃ a, VA / GA = a := ⟨_, rfl⟩
      obtain ⟨A2, hA2⟩ : ∃ a, (t : Int) / GA = a := ⟨_, rfl⟩
      rw [hA1, hA2] at fa
      have ma1 : A1 * GA = VA := fa.2.2.2.2.1
      have ma2 : A2 * GA = (t : Int) := fa.2.2.2.2.2.1
      have ma3 : 1 ≤ A2 := fa.2.2.1
      have ma5 : A2 ≠ 0 := by omega
      have ma6 : (t : Int).tdiv A2 = GA := by rw [← ma2]; exact Int.mul_tdiv_cancel_left _ ma5
      have ma7 : (t : Int).tmod A2 = 0 := by rw [← ma2]; exact Int.mul_tmod_right _ _
      have ma8 : (t : Int) / A2 = GA := by rw [← ma2]; exact Int.mul_ediv_cancel_left _ ma5
      have ma9 : (t : Int) % A2 = 0 := by rw [← ma2]; exact Int.mul_emod_right _ _
      have gba : GA ≤ (t : Int) := by rw [← hGA]; exact gd_le_right (by omega)
      have wga : IntKind.i64.wrap GA = GA := IntWalk.i64_in _ (by omega)
      have wva : IntKind.i64.wrap VA = VA := IntWalk.i64_in _ (by omega)
      have wma : IntKind.i64.wrap (A1 * GA) = VA := by rw [ma1]; exact wva
      have wxa : wrap64 (A1 * GA) = VA := by rw [ma1]; exact IntWalk.wrap64_in _ (by omega)
      have la1 : ¬ A2 < 1 := by omega
      have HFA := Lib.hid (And.intro hGA (And.intro hA1 (And.intro hA2 fa)))
      clear fa ga hGA hA1 hA2 ma2 gba
      have fb := make_facts (n := VB) (d := (t : Int)) vb0 (by omega) (by omega) (by omega)
      have gb := gd_pos (a := VB) (b := (t : Int)) (by omega)
      obtain ⟨GB, hGB⟩ : ∃ a, gd VB (t : Int) = a := ⟨_, rfl⟩
      rw [hGB] at fb gb
      obtain ⟨B1, hB1⟩ : ∃ a, VB / GB = a := ⟨_, rfl⟩
      obtain ⟨B2, hB2⟩ : ∃ a, (t : Int) / GB = a := ⟨_, rfl⟩
      rw [hB1, hB2] at fb
      have mb1 : B1 * GB = VB := fb.2.2.2.2.1
      have mb2 : B2 * GB = (t : Int) := fb.2.2.2.2.2.1
      have mb3 : 1 ≤ B2 := fb.2.2.1
      have mb5 : B2 ≠ 0 := by omega
      have mb6 : (t : Int).tdiv B2 = GB := by rw [← mb2]; exact Int.mul_tdiv_cancel_left _ mb5
      have mb7 : (t : Int).tmod B2 = 0 := by rw [← mb2]; exact Int.mul_tmod_right _ _
      have mb8 : (t : Int) / B2 = GB := by rw [← mb2]; exact Int.mul_ediv_cancel_left _ mb5
      have mb9 : (t : Int) % B2 = 0 := by rw [← mb2]; exact Int.mul_emod_right _ _
      have gbb : GB ≤ (t : Int) := by rw [← hGB]; exact gd_le_right (by omega)
      have wgb : IntKind.i64.wrap GB = GB := IntWalk.i64_in _ (by omega)
      have wvb : IntKind.i64.wrap VB = VB := IntWalk.i64_in _ (by omega)
      have wmb : IntKind.i64.wrap (B1 * GB) = VB := by rw [mb1]; exact wvb
      have wxb : wrap64 (B1 * GB) = VB := by rw [mb1]; exact IntWalk.wrap64_in _ (by omega)
      have lb1 : ¬ B2 < 1 := by omega
      have HFB := Lib.hid (And.intro hGB (And.intro hB1 (And.intro hB2 fb)))
      clear fb gb hGB hB1 hB2 mb2 gbb
      have fc := make_facts (n := VC) (d := (t : Int)) vc0 (by omega) (by omega) (by omega)
      have gc := gd_pos (a := VC) (b := (t : Int)) (by omega)
      obtain ⟨GC, hGC⟩ : ∃ a, gd VC (t : Int) = a := ⟨_, rfl⟩
      rw [hGC] at fc gc
      obtain ⟨C1, hC1⟩ : ∃ a, VC / GC = a := ⟨_, rfl⟩
      obtain ⟨C2, hC2⟩ : ∃ a, (t : Int) / GC = a := ⟨_, rfl⟩
      rw [hC1, hC2] at fc
      have mc1 : C1 * GC = VC := fc.2.2.2.2.1
      have mc2 : C2 * GC = (t : Int) := fc.2.2.2.2.2.1
      have mc3 : 1 ≤ C2 := fc.2.2.1
      have mc5 : C2 ≠ 0 := by omega
      have mc6 : (t : Int).tdiv C2 = GC := by rw [← mc2]; exact Int.mul_tdiv_cancel_left _ mc5
      have mc7 : (t : Int).tmod C2 = 0 := by rw [← mc2]; exact Int.mul_tmod_right _ _
      have mc8 : (t : Int) / C2 = GC := by rw [← mc2]; exact Int.mul_ediv_cancel_left _ mc5
      have mc9 : (t : Int) % C2 = 0 := by rw [← mc2]; exact Int.mul_emod_right _ _
      have gbc : GC ≤ (t : Int) := by rw [← hGC]; exact gd_le_right (by omega)
      have wgc : IntKind.i64.wrap GC = GC := IntWalk.i64_in _ (by omega)
      have wvc : IntKind.i64.wrap VC = VC := IntWalk.i64_in _ (by omega)
      have wmc : IntKind.i64.wrap (C1 * GC) = VC := by rw [mc1]; exact wvc
      have wxc : wrap64 (C1 * GC) = VC := by rw [mc1]; exact IntWalk.wrap64_in _ (by omega)
      have lc1 : ¬ C2 < 1 := by omega
      have HFC := Lib.hid (And.intro hGC (And.intro hC1 (And.intro hC2 fc)))
      clear fc gc hGC hC1 hC2 mc2 gbc
      rw [HFA.out.1, HFA.out.2.1, HFA.out.2.2.1] at S1 S4
      rw [HFB.out.1, HFB.out.2.1, HFB.out.2.2.1] at S2
      rw [HFC.out.1, HFC.out.2.1, HFC.out.2.2.1] at S3
      obtain ⟨E, hE⟩ : ∃ a, DD * (t : Int) = a := ⟨_, rfl⟩
      have e0 : 0 ≤ E ∧ E ≤ 5120000 * 32 := by
        rw [← hE]
        exact ⟨Int.mul_nonneg dd0 (by omega), Int.mul_le_mul dd1 (by omega) (by omega) (by omega)⟩
      have vE : VA ≤ E := by rw [← hE]; exact vad
      have wE : wrap64 (DD * (t : Int)) = E := by rw [hE]; exact IntWalk.wrap64_in _ (by omega)
      have pAB : 0 ≤ VA * VB ∧ VA * VB ≤ 163840000 * 163840000 := ⟨Int.mul_nonneg va0 vb0, Int.mul_le_mul va1 vb1 vb0 (by omega)⟩
      have eAB : 4 * (VA * VB) = 4 * VA * VB := by grind
      rw [eAB] at T
      have w4 : wrap64 (4 * VA * VB) = 4 * VA * VB := IntWalk.wrap64_in _ (by omega)
      have s2 := sq_nn (VC - VA - VB)
      have w5 : wrap64 ((VC - VA - VB) * (VC - VA - VB)) = (VC - VA - VB) * (VC - VA - VB) := IntWalk.wrap64_in _ (by omega)
      have HZZ := Lib.hid (And.intro hE (And.intro e0 (And.intro pAB s2)))
      clear hE e0 pAB s2 vad eAB dd0 dd1
      go_wp2_with fail
      go_at_call 15
      refine (S1.out _ (Bel.rf)).mono ?_
      rintro e p1 ⟨rfl, hp⟩
      have K1 : Hid (Bel wr p1) := hp
      have HA1 := Lib.hid (Bk.nw p1 37 #[.int .i64 A1, .int .i64 A2])
      clear hp
      go_wp2_with fail
      go_at_call 15
      refine (S2.out _ (K1.out.al _)).mono ?_
      rintro e p2 ⟨rfl, hp⟩
      have K2 : Hid (Bel wr p2) := (K1.out.al _).tr hp
      have HA2 := Lib.hid ((HA1.out.bel hp).al (.cells #[.int .i64 B1, .int .i64 B2] 37))
      have HB2 := Lib.hid (Bk.nw p2 37 #[.int .i64 B1, .int .i64 B2])
      clear hp
      go_wp2_with fail
      go_at_call 15
      refine (S3.out _ (K2.out.al _)).mono ?_
      rintro e p3 ⟨rfl, hp⟩
      have K3 : Hid (Bel wr p3) := (K2.out.al _).tr hp
      have HA3 := Lib.hid ((HA2.out.bel hp).al (.cells #[.int .i64 C1, .int .i64 C2] 37))
      have HB3' := Lib.hid ((HB2.out.bel hp).al (.cells #[.int .i64 C1, .int .i64 C2] 37))
      have HC3 := Lib.hid (Bk.nw p3 37 #[.int .i64 C1, .int .i64 C2])
      clear hp
      go_wp2_with fail
      go_at_call 15
      refine (S4.out _ (K3.out.al _)).mono ?_
      rintro e p4 ⟨rfl, hp⟩
      have K4 : Hid (Bel wr p4) := (K3.out.al _).tr hp
      have HA4 := Lib.hid ((HA3.out.bel hp).al (.cells #[.int .i64 A1, .int .i64 A2] 37))
      have HB4 := Lib.hid ((HB3'.out.bel hp).al (.cells #[.int .i64 A1, .int .i64 A2] 37))
      have HC4 := Lib.hid ((HC3.out.bel hp).al (.cells #[.int .i64 A1, .int .i64 A2] 37))
      have HD4 := Lib.hid (Bk.nw p4 37 #[.int .i64 A1, .int .i64 A2])
      clear hp
      go_wp2_with fail
      go_at_call 11
      refine (S5.out _ (K4.out.al _)).mono ?_
      rintro e p5 ⟨rfl, hp⟩
      have K5 : Hid (Bel wr p5) := (K4.out.al _).tr hp
      have ba := HA4.out.bel hp
      have bb := HB4.out.bel hp
      have bc := HC4.out.bel hp
      have bd := HD4.out.bel hp
      have a0' : p5.cell? ⟨p1.heap.size, 0, none⟩ = some (.int .i64 A1) := ba.cell 0
      have a1' : p5.cell? ⟨p1.heap.size, 1, none⟩ = some (.int .i64 A2) := ba.cell 1
      have b0' : p5.cell? ⟨p2.heap.size, 0, none⟩ = some (.int .i64 B1) := bb.cell 0
      have b1' : p5.cell? ⟨p2.heap.size, 1, none⟩ = some (.int .i64 B2) := bb.cell 1
      have c0' : p5.cell? ⟨p3.heap.size, 0, none⟩ = some (.int .i64 C1) := bc.cell 0
      have c1' : p5.cell? ⟨p3.heap.size, 1, none⟩ = some (.int .i64 C2) := bc.cell 1
      have d0' : p5.cell? ⟨p4.heap.size, 0, none⟩ = some (.int .i64 A1) := bd.cell 0
      have d1' : p5.cell? ⟨p4.heap.size, 1, none⟩ = some (.int .i64 A2) := bd.cell 1
      clear hp ba bb bc bd
      rcases Int.lt_or_le (VA + VB) VC with hv | hv
      all_goals
        go_wp2
        go_quiet (fail)
        go_wp2_with (go_at_call 14; refine (AW.out _).mono ?_; rintro e w9 ⟨rfl, hb9⟩)
        go_ret
        exact ⟨rfl, by first | exact ((HF.out.tr K5.out).tr hb9).bl | exact (((HF.out.tr K5.out).drwN _).tr hb9).bl | exact (((HF.out.tr K5.out).drw).tr hb9).bl⟩

set_option maxRecDepth 100000 in
theorem lifted (os : Os) (started : os.Started) (H : Type) (enc : TypeId × Value → H) :
    ReturnsInHanded {} Try.checked os 5 .any (Rows.euclidRootsSpec.pre6 enc Try.prog Try.f5 Rows.euclidRootsRow.domain false) (Rows.euclidRootsSpec.post enc Try.prog Try.f5 false true false false) := by
  refine returnsInHanded_of_change (C := Try.checked) own started (by kernel_rfl) Try.func5
    (ChangeSpec.witness6 (enc := enc) (C := Try.checked) false ⟨#[], #[.slice none 0 0], []⟩ 8 (by kernel_rfl) (by kernel_rfl) (by kernel_rfl) (by kernel_rfl)) ?_
  intro W base args ds gs before hval0 hW hcnd _
  have hval : ∀ (j : Nat) t v, Try.f5.params[j]? = some t → args[j]? = some v → Value.okWide Try.prog W .any base t v := hval0
  have hW' := hW
  obtain ⟨p, q, hA0, hV, rfl, hfz, hnd⟩ := hW
  have hA : DataW.TrodAll enc Try.prog W 0 (fun _ => true) true Try.f5.params.toList args.toList ds p := hA0
  rw [Try.params5] at hA hval
  obtain ⟨v0, vs0, d0, ds0, p0, q0, hargs, rfl, rfl, h0, r0⟩ := trodAll_cons hA
  obtain ⟨rfl, rfl, rfl⟩ := trodAll_nil r0
  obtain rfl : args = #[v0] := by cases args; simp_all
  obtain ⟨rfl, rfl⟩ := trodVars_none hV
  obtain ⟨a0, len0, cap0, rfl⟩ := okWide_slice Try.underlying22 (hval 0 22 v0 rfl rfl)
  have k0 := h0
  have lt0 : ∀ x ∈ p0, x.block < W.heap.size := by obtain ⟨m, hm⟩ := k0; exact DataW.trod_lt m _ _ _ hm
  obtain ⟨z0, w0⟩ : ∃ zs, IsRow .i64 W a0 len0 cap0 zs := by
    obtain ⟨fuel, hf⟩ := h0
    rcases open_ints Try.underlying22 Try.underlying3 (by kernel_rfl) hf with ⟨hcs, _⟩ | ⟨x, l, c, zs, hcs, _, hl, hm, hz, _, hcell, hwz⟩
    · simp [Value.cells] at hcs
      obtain ⟨rfl, rfl, rfl⟩ := hcs
      exact ⟨[], .inl ⟨rfl, rfl, rfl, rfl⟩⟩
    · simp [Value.cells] at hcs
      obtain ⟨rfl, rfl, rfl⟩ := hcs
      exact ⟨zs, .inr ⟨_, rfl, hl, hm, by simpa using hz, hcell, hwz⟩⟩
  clear hA0 hval0
  refine (walk a0 len0 cap0 z0 W w0).mono fun e W' ⟨he, bel⟩ => ?_
  subst he
  exact ⟨_, rfl, _, _, _, [], _, [], hW', trodAll_mk1 (shut_bool Try.underlying4 _), (trodAll_cons_mk (Below.trod laidOut (by kernel_rfl) (of_decide_eq_true (by kernel_rfl)) k0 bel lt0) trodAll_mk0), rfl, bel.frame _, fun h => by cases h⟩

theorem over : Rows.euclidRootsRow.holds Try.pinned (OpenSpec.ofChange Rows.euclidRootsSpec) :=
  OpenClaim.holds_of_wide 5 Try.f5 rfl rfl rfl rfl rfl rfl rfl ⟨rfl, rfl, rfl, rfl, rfl⟩ rfl rfl rfl rfl rfl (by kernel_rfl) Try.func5 (by kernel_rfl)
    (of_decide_eq_true (by kernel_rfl)) (by unfold Func.isWrapper; first | (rw [if_pos (by decide +kernel)]; kernel_rfl) | (rw [if_neg (by decide +kernel)]; exact ⟨rfl, rfl⟩))
    (fun os started H enc _ => lifted os started H enc)

theorem proved : Rows.EuclidRootsSaid := over
end Go.Proofs.Ytbmibdgdabgcbaa.euclidRoots
