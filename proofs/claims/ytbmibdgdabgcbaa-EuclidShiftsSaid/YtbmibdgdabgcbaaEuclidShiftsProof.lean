/- That the law EuclidShifts returns true for every input that can be read, and leaves its arguments as they were; no further condition. -/
import Derived.Test.YtbmibdgdabgcbaaRows
import Derived.WalkKit
import Derived.ProofKit
import Derived.OpenShut
import Derived.Test.YtbmibdgdabgcbaaWords
import Derived.Test.YtbmibdgdabgcbaaSrcNew0
import Derived.Test.YtbmibdgdabgcbaaNear
import Derived.Test.YtbmibdgdabgcbaaRef01
import Derived.Test.YtbmibdgdabgcbaaEucAwake
import Derived.ShutString
import Derived.ChangeOld
import Derived.Below
namespace Go.Proofs.Ytbmibdgdabgcbaa.euclidShifts
open Go.ChangeShapes Go.WideShapes Go.ChangeAt Go.RowKit Wo
open Go.ChangeMaps (open_string shut_string)
set_option linter.unusedVariables false

theorem own : ownKnob Try.prog.godebug = none := by kernel_rfl
theorem laidOut : laidOutB Try.prog = true := by kernel_rfl

/-- WHAT THE WALK IS TOLD OF A SLICE OF INTEGERS THAT CAME IN: it is nil; or it leads to a row of 'cap' cells, the numbers 'zs' (the first 'len' are its elements, the rest its spare room), each fitting its kind. -/
def IsRow (k : IntKind) (w : World) (a : Option Addr) (len cap : Nat) (zs : List Int) : Prop :=
  (a = none ∧ len = 0 ∧ cap = 0 ∧ zs = []) ∨
  ∃ x, a = some x ∧ len ≤ cap ∧ cap ≤ maxLen ∧ zs.length = cap ∧ (∀ i, i < zs.length → w.cell? (x.add i) = some (.int k (zs.getD i 0))) ∧ ∀ n ∈ zs, (Lit.int k n).wf = true

section
open Go.Proofs.Ytbmibdgdabgcbaa.Wi Go.Proofs.Ytbmibdgdabgcbaa.Wo Go.Proofs.Ytbmibdgdabgcbaa.Sr
def fif (a : Int) : Int := (a * 4).tdiv 5
theorem fif_in {a : Int} (h0 : -1000 ≤ a) (h1 : a ≤ 1000) : -800 ≤ fif a ∧ fif a ≤ 800 := by
  unfold fif
  rcases Int.lt_or_le a 0 with h | h
  · have e : (a * 4).tdiv 5 = -((-(a * 4)).tdiv 5) := by rw [Int.neg_tdiv, Int.neg_neg]
    rw [e, Int.tdiv_eq_ediv_of_nonneg (by omega)]
    omega
  · rw [Int.tdiv_eq_ediv_of_nonneg (by omega)]
    omega
def mix (L : List Int) (t : Nat) : List Int := (L.map fif).take t ++ L.drop t
theorem mix_len (L : List Int) (t : Nat) : (mix L t).length = L.length := by simp [mix]; omega
theorem mix_at (L : List Int) (t : Nat) (h : t < L.length) : (mix L t).getD t 0 = L.getD t 0 := by
  simp only [mix, List.getD_eq_getElem?_getD]
  rw [List.getElem?_append_right (by simp; omega)]
  simp [List.length_take, Nat.min_eq_left (Nat.le_of_lt h)]
theorem mix_set (L : List Int) (t : Nat) (h : t < L.length) : (mix L t).set t (fif (L.getD t 0)) = mix L (t + 1) := by
  unfold mix
  have e : L.drop t = L.getD t 0 :: L.drop (t + 1) := by
    rw [List.drop_eq_getElem_cons h, List.getD_eq_getElem?_getD, List.getElem?_eq_getElem h]; rfl
  rw [e, List.set_append_right _ _ (by simp; omega)]
  have e2 : t - ((L.map fif).take t).length = 0 := by simp; omega
  rw [e2, List.set_cons_zero, take_snoc (L.map fif) t (by simpa using h), List.append_assoc]
  congr 2
  simp [List.getD_eq_getElem?_getD, h]
theorem mix_prev (L : List Int) (t : Nat) (h : t < L.length) : (mix L (t + 1)).getD t 0 = fif (L.getD t 0) := by
  rw [← mix_set L t h, List.getD_eq_getElem?_getD, List.getElem?_set_self (by rw [mix_len]; exact h)]
  rfl
theorem map_at (L : List Int) (t : Nat) (h : t < L.length) : (L.map fif).getD t 0 = fif (L.getD t 0) := by simp [List.getD_eq_getElem?_getD, h]
theorem fif_sam {L : List Int} (h : Sam L) : Bd 800 (L.map fif) := fun x hx => by
  obtain ⟨a, ha, rfl⟩ := List.mem_map.1 hx
  have := h a ha
  exact fif_in this.1 this.2
theorem df_shift (P Q : List Int) (b : Int) : df P (Q.map (· + b)) = (df P Q).map (· + (-b)) := by
  induction P generalizing Q with
  | nil => simp [df]
  | cons x P ih =>
    rcases Q with _ | ⟨y, Q⟩
    · simp [df]
    · show (x - (y + b)) :: df P (Q.map (· + b)) = ((x - y) + -b) :: (df P Q).map (· + (-b))
      rw [ih Q]
      congr 1
      omega
/-- the squares of m times a number less the sum -/
theorem exact_eq (m S : Int) (D : List Int) : su sq (D.map fun d => m * d - S) = m * m * su sq D - 2 * (m * S) * su ix D + S * S * (D.length : Int) := by
  induction D with
  | nil => simp [su]
  | cons d D ih =>
    rw [List.map_cons, show su sq ((m * d - S) :: D.map fun d => m * d - S) = (m * d - S) * (m * d - S) + su sq (D.map fun d => m * d - S) from rfl, ih, show su sq (d :: D) = d * d + su sq D from rfl, show su ix (d :: D) = d + su ix D from rfl, show ((d :: D).length : Int) = (D.length : Int) + 1 by simp]
    grind
theorem exact_vr (D : List Int) : su sq (D.map fun d => (D.length : Int) * d - su ix D) = (D.length : Int) * vr D := by
  rw [exact_eq]
  unfold vr
  grind
/-- t samples of both windows have been scaled, appended shifted, and their differences added up -/
def XI (L M : List Int) (b : Int) (n xa xb ya yb B1 B2 : Nat) (w : World) (s8 s9 s29 : Value) (wr : World) : Prop := ∃ (t : Nat) (V : World) (u : Value), V = wr ∧ u = s8 ∧ t ≤ n ∧ s29 = .int .i64 (t : Int) ∧ s9 = .int .i64 (su ix ((df (L.map fif) (M.map fif)).take t)) ∧
  wr.ownsRow B1 3 1 (.slice (some ⟨xa, 0, none⟩) n xb) n (zs (mix L t)) ∧ wr.ownsRow B1 3 1 (.slice (some ⟨ya, 0, none⟩) n yb) n (zs (mix M t)) ∧ wr.ownsRow B2 3 1 s8 t (zs (((M.map fif).take t).map (· + b))) ∧ Bel w wr ∧ B2 ≤ wr.heap.size
theorem xi_step {L M : List Int} {b x y : Int} {n xa xb ya yb B1 B2 t g cap : Nat} {w wr w2 w3 : World} {s8 : Value} (ht : t < n) (lL : L.length = n) (lM : M.length = n) (hxy : xa ≠ ya) (hxB : xa < B2) (hyB : ya < B2) (hwB : w.heap.size ≤ B2) (wx : w.heap.size ≤ xa) (wy : w.heap.size ≤ ya)
    (ex : fif (L.getD t 0) = x) (ey : fif (M.getD t 0) = y)
    (hx : wr.ownsRow B1 3 1 (.slice (some ⟨xa, 0, none⟩) n xb) n (zs (mix L t))) (hy : wr.ownsRow B1 3 1 (.slice (some ⟨ya, 0, none⟩) n yb) n (zs (mix M t))) (hz : wr.ownsRow B2 3 1 s8 t (zs (((M.map fif).take t).map (· + b)))) (hb : Bel w wr) (hB : B2 ≤ wr.heap.size)
    (h3 : w2.ownsRow B2 3 1 (.slice (some ⟨g, 0, none⟩) (t + 1) cap) (t + 1) (zs (((M.map fif).take t).map (· + b)) ++ [.int .i64 (y + b)]))
    (h13 : Bel ((((wr.setCell ⟨xa, t, none⟩ (.int .i64 x)).setCell ⟨ya, t, none⟩ (.int .i64 y))).alloc (.cells #[.int .i64 (y + b)] 3)) w3) (hgr : w3.grownBy w2 s8.ownBlock) :
    w2.ownsRow B1 3 1 (.slice (some ⟨xa, 0, none⟩) n xb) n (zs (mix L (t + 1))) ∧ w2.ownsRow B1 3 1 (.slice (some ⟨ya, 0, none⟩) n yb) n (zs (mix M (t + 1))) ∧ w2.ownsRow B2 3 1 (.slice (some ⟨g, 0, none⟩) (t + 1) cap) (t + 1) (zs (((M.map fif).take (t + 1)).map (· + b))) ∧ Bel w w2 ∧ B2 ≤ w2.heap.size := by
  have hrow : ∀ q, s8.ownBlock = some q → B2 ≤ q := fun q e => (hz.lt q e).1
  have k1 := own_set (t := t) hx x
  rw [← ex, mix_set L t (by omega), ex] at k1
  have k1' := (ownsRow_setCell_other k1 (a := ⟨ya, t, none⟩) (by intro e; injection e with e; exact hxy e) (.int .i64 y)).alloc (.cells #[.int .i64 (y + b)] 3)
  have k2 := own_set (t := t) (ownsRow_setCell_other hy (a := ⟨xa, t, none⟩) (by intro e; injection e with e; exact hxy e.symm) (.int .i64 x)) y
  rw [← ey, mix_set M t (by omega), ey] at k2
  have k2' := k2.alloc (.cells #[.int .i64 (y + b)] 3)
  have k3 : Bel w ((((wr.setCell ⟨xa, t, none⟩ (.int .i64 x)).setCell ⟨ya, t, none⟩ (.int .i64 y))).alloc (.cells #[.int .i64 (y + b)] 3)) := ((hb.st wx _).st wy _).al _
  refine ⟨(own_bel k1' h13).kept hgr (.inr (fun e => by have := hrow xa e.symm; omega)), (own_bel k2' h13).kept hgr (.inr (fun e => by have := hrow ya e.symm; omega)), ?_, ?_, ?_⟩
  · have e : ((M.map fif).take (t + 1)).map (· + b) = ((M.map fif).take t).map (· + b) ++ [y + b] := by
      rw [take_snoc (M.map fif) t (by simp; omega), List.map_append, map_at M t (by omega), ey]; rfl
    rw [e, zs_app]
    exact h3
  · exact Below.grown (k3.tr h13) hgr (k3.tr h13).size (fun q e => by have := hrow q e; omega)
  · have := hgr.size
    have h0 := h13.size
    simp [World.setCell] at h0
    omega
end
open Go.Proofs.Ytbmibdgdabgcbaa.Eu Go.Proofs.Ytbmibdgdabgcbaa.Wi Go.Proofs.Ytbmibdgdabgcbaa.Wo Go.Proofs.Ytbmibdgdabgcbaa.Sr Go.Proofs.Ytbmibdgdabgcbaa.Ra in
set_option maxHeartbeats 16000000 in
set_option maxRecDepth 100000 in
theorem walk (a0 : Option Addr) (len0 cap0 : Nat) (z0 : List Int) (a1 : Int) (w : World) (w0 : IsRow .i64 w a0 len0 cap0 z0) (w1 : (Lit.int .i8 a1).wf = true) :
    Calls Try.prog 4 #[.slice a0 len0 cap0, .int .i8 a1] w fun e w' => e = .returned (.bool true) ∧ Below w.heap.size w w' := by
  have b1 := bounds_i8 w1
  obtain ⟨i1, i2⟩ := b1
  have HW := Lib.hid w1
  clear w1
  obtain ⟨i0, hi0, hz0, hz1, hz2⟩ := info_parts info_int
  have HI := Lib.hid (And.intro hi0 (And.intro hz0 (And.intro hz1 hz2)))
  clear hi0 hz0 hz1 hz2
  have AW : Hid (∀ W, Calls Try.prog 14 #[] W fun e w' => e = .returned (.bool true) ∧ Bel W w') := awake_any
  go_enter Try.func4, Try.ntmps4
  go_wp2_with fail
  go_at_call 8
  refine (new_any a0 len0 cap0 z0 w w0).mono ?_
  rintro e v1 ⟨g, rfl, hg, ho1, hb1⟩
  have HO1 := Lib.hid ho1
  have HB1 := Lib.hid hb1
  clear ho1 hb1 w0
  go_wp2_with fail
  go_at_call 9
  refine (pair_any g _ HO1.out).mono ?_
  rintro e v2 ⟨xa, xb, ya, yb, n, L, M, rfl, n1, n2, hxy, hox, hoy, lL, lM, sL, sM, ho2, hc2⟩
  have HO2 := Lib.hid ho2
  have HC2 := Lib.hid hc2
  have HOX := Lib.hid hox
  have HOY := Lib.hid hoy
  have hgv := HO1.out.lt
  have hxv := (hox.lt xa rfl).1
  have hyv := (hoy.lt ya rfl)
  have ni1 : 2 ≤ (n : Int) := by omega
  have ni2 : (n : Int) ≤ 32 := by omega
  have HLL := Lib.hid (And.intro lL (And.intro lM (And.intro sL sM)))
  clear ho2 hc2 hox hoy lL lM sL sM
  have HB2 : Hid (Bel w v2) := Bel.ch HB1.out HC2.out hg
  have hwv := HB1.out.size
  have hxy2 : xa ≠ ya := by omega
  have hw1 : w.heap.size ≤ xa := by omega
  have hw2 : w.heap.size ≤ ya := by omega
  have hyB := hyv.2
  have hxB : xa < v2.heap.size := by omega
  have HNE := Lib.hid (And.intro hxy2 (And.intro hxB (And.intro hyB (And.intro HB2.out.size (And.intro hw1 hw2)))))
  have HR0 : Hid (XI L M a1 n xa xb ya yb v1.heap.size v2.heap.size w (.slice none 0 0) (.int .i64 0) (.int .i64 0) v2) := ⟨0, _, _, rfl, rfl, by omega, rfl, by simp [su], by simpa [mix] using HOX.out, by simpa [mix] using HOY.out, World.ownsRow_nil _ _ _ _, HB2.out, Nat.le_refl _⟩
  clear HOX HOY hxy hw1 hw2 hwv hxv hyv hyB hxB hgv hxy2
  go_wp2
  go_loopw [8, 9, 29] (fun s8 s9 s29 wr => XI L M a1 n xa xb ya yb v1.heap.size v2.heap.size w s8 s9 s29 wr) (fun _ _ s29 _ => n - (intOf s29).toNat)
  case atStart => exact HR0.out
  case round =>
    clear HR0
    obtain ⟨t, wr, u8, hwr, hu8, ht, rfl, rfl, hx, hy, hz, hb, hB⟩ := hrel
    subst hwr hu8
    have HX := Lib.hid hx
    have HY := Lib.hid hy
    have HZ := Lib.hid hz
    have HB := Lib.hid hb
    have lPQ : (L.map fif).length = (M.map fif).length := by simp [HLL.out.1, HLL.out.2.1]
    rcases Nat.lt_or_ge t n with hlt | hge
    · have c1 := (own_zi hx (by rw [mix_len]; exact HLL.out.1)).at t hlt
      have c2 := (own_zi hy (by rw [mix_len]; exact HLL.out.2.1)).at t hlt
      rw [mix_at L t (by have := HLL.out.1; omega)] at c1
      rw [mix_at M t (by have := HLL.out.2.1; omega)] at c2
      have f1 := own_fr hx t
      have f2 := own_fr hy t
      have p1 := HLL.out.2.2.1.at t
      have p2 := HLL.out.2.2.2.at t
      have hdf := su_next ix (df (L.map fif) (M.map fif)) t (by rw [df_len lPQ]; simp; have := HLL.out.1; omega)
      rw [df_at lPQ t (by simp; have := HLL.out.1; omega), map_at L t (by have := HLL.out.1; omega), map_at M t (by have := HLL.out.2.1; omega)] at hdf
      have hsb := su_bd ((df_bd (fif_sam HLL.out.2.2.1) (fif_sam HLL.out.2.2.2)).take t)
      have tl : (((df (L.map fif) (M.map fif)).take t).length : Int) ≤ 32 := by have := List.length_take_le t (df (L.map fif) (M.map fif)); omega
      obtain ⟨s, hs⟩ : ∃ s, su ix ((df (L.map fif) (M.map fif)).take t) = s := ⟨_, rfl⟩
      rw [hs] at hdf hsb ⊢
      obtain ⟨u1, hu1⟩ : ∃ u, L.getD t 0 = u := ⟨_, rfl⟩
      obtain ⟨u2, hu2⟩ : ∃ u, M.getD t 0 = u := ⟨_, rfl⟩
      rw [hu1] at c1 p1 hdf
      rw [hu2] at c2 p2 hdf
      have q1 := fif_in p1.1 p1.2
      have q2 := fif_in p2.1 p2.2
      obtain ⟨y1, hy1⟩ : ∃ u, fif u1 = u := ⟨_, rfl⟩
      obtain ⟨y2, hy2⟩ : ∃ u, fif u2 = u := ⟨_, rfl⟩
      have d1 : (u1 * 4).tdiv 5 = y1 := hy1
      have d2 : (u2 * 4).tdiv 5 = y2 := hy2
      rw [hy1] at q1 hdf
      rw [hy2] at q2 hdf
      obtain ⟨p10, p11⟩ := p1
      obtain ⟨p20, p21⟩ := p2
      obtain ⟨q10, q11⟩ := q1
      obtain ⟨q20, q21⟩ := q2
      have w1 : IntKind.i64.wrap y1 = y1 := IntWalk.i64_in _ (by omega)
      have w2 : IntKind.i64.wrap y2 = y2 := IntWalk.i64_in _ (by omega)
      have w3 : IntKind.i64.wrap (u1 * 4) = u1 * 4 := IntWalk.i64_in _ (by omega)
      have w4 : IntKind.i64.wrap (u2 * 4) = u2 * 4 := IntWalk.i64_in _ (by omega)
      have w5 : IntKind.i64.wrap (y1 - y2) = y1 - y2 := IntWalk.i64_in _ (by omega)
      have sbb : -51200 ≤ s ∧ s ≤ 51200 := by omega
      obtain ⟨sb0, sb1⟩ := sbb
      have w6 : IntKind.i64.wrap (s + (y1 - y2)) = s + (y1 - y2) := IntWalk.i64_in _ (by omega)
      have n1 : xa ≠ ya := HNE.out.1
      have ti : (t : Int) < (n : Int) := by omega
      have hown1 := ownsRow_setCell_below (ownsRow_setCell_below hz (a := ⟨xa, t, none⟩) HNE.out.2.1 (.int .i64 y1)) (a := ⟨ya, t, none⟩) HNE.out.2.2.1 (.int .i64 y2)
      have HOW := Lib.hid hown1
      have wsz : ((wr.setCell ⟨xa, t, none⟩ (.int .i64 y1)).setCell ⟨ya, t, none⟩ (.int .i64 y2)).heap.size = wr.heap.size := by simp [World.setCell]
      have HNB : Hid ((((wr.setCell ⟨xa, t, none⟩ (.int .i64 y1)).setCell ⟨ya, t, none⟩ (.int .i64 y2)).alloc (.cells #[.int .i64 (y2 + a1)] 3)).heap[wr.heap.size]? = some (.cells #[.int .i64 (y2 + a1)] 3 (0, 0))) := by
        have := heap_alloc_new ((wr.setCell ⟨xa, t, none⟩ (.int .i64 y1)).setCell ⟨ya, t, none⟩ (.int .i64 y2)) (.cells #[.int .i64 (y2 + a1)] 3)
        rw [wsz] at this
        exact this
      have HDF := Lib.hid hdf
      have HU := Lib.hid (And.intro (show fif (L.getD t 0) = y1 by rw [hu1, hy1]) (show fif (M.getD t 0) = y2 by rw [hu2, hy2]))
      have HSS := Lib.hid hs
      clear hx hy hz hb hown1 hu1 hu2 hy1 hy2 hdf hsb tl hs wsz lPQ
      go_wp2
      go_region
      all_goals
        go_wp2_with (at_builtin; refine wpList_append_lies _ (by rfl) _ _ 22 (by rfl) v2.heap.size 3 i0 _ 1 8 Try.underlying22 HI.out.1 HI.out.2.1 HI.out.2.2.1 HI.out.2.2.2 (by rfl) (by omega) u8 t (zs (((M.map fif).take t).map (· + a1))) (by rfl) (HOW.out.alloc _) ⟨wr.heap.size, 0, none⟩ 1 1 [.int .i64 (y2 + a1)] (by rfl) (by rfl) (World.news_of_block (cs := #[.int .i64 (y2 + a1)]) (t := 3) (fr := (0, 0)) HNB.out) (by simp [Value.oneCell']) (by omega) (by unfold maxLen; omega) (by omega) (by simp; omega) (wr.heap.size + 1) (by simp) ?_; intro g' cap' w5 hown4 hgrow hat hlt4)
        obtain ⟨r1, r2, r3, r4, r5⟩ := xi_step hlt HLL.out.1 HLL.out.2.1 HNE.out.1 HNE.out.2.1 HNE.out.2.2.1 HNE.out.2.2.2.1 HNE.out.2.2.2.2.1 HNE.out.2.2.2.2.2 HU.out.1 HU.out.2 HX.out HY.out HZ.out HB.out hB hown4 (by first | exact Bel.rf | exact Bel.rf.drw | exact Bel.rf.drwN _) hgrow
        have cc1 := (own_zi r1 (by rw [mix_len]; exact HLL.out.1)).at t hlt
        have cc2 := (own_zi r2 (by rw [mix_len]; exact HLL.out.2.1)).at t hlt
        rw [mix_prev L t (by have := HLL.out.1; omega), HU.out.1] at cc1
        rw [mix_prev M t (by have := HLL.out.2.1; omega), HU.out.2] at cc2
        have HRES := Lib.hid (And.intro r1 (And.intro r2 (And.intro r3 (And.intro r4 r5))))
        clear r1 r2 r3 r4 r5 hown4 hgrow hat c1 c2 f1 f2
        go_wp2
        go_quiet (fail)
        go_wp2
        go_roundw
        case rel =>
          refine ⟨t + 1, _, _, rfl, rfl, by omega, by go_num, ?_, ?_, ?_, ?_, ?_, ?_⟩
          · rw [HDF.out]; rfl
          · first | exact HRES.out.1 | exact own_bel HRES.out.1 (Bel.rf.drwN _)
          · first | exact HRES.out.2.1 | exact own_bel HRES.out.2.1 (Bel.rf.drwN _)
          · first | exact HRES.out.2.2.1 | exact own_bel HRES.out.2.2.1 (Bel.rf.drwN _)
          · first | exact HRES.out.2.2.2.1 | exact HRES.out.2.2.2.1.drwN _
          · exact HRES.out.2.2.2.2
        case measure => simp [intOf]; omega
    · obtain rfl : t = n := by omega
      have eX : mix L t = L.map fif := by
        unfold mix
        rw [List.drop_of_length_le (by have := HLL.out.1; omega), List.append_nil]
        exact List.take_of_length_le (by simp; have := HLL.out.1; omega)
      have eY : mix M t = M.map fif := by
        unfold mix
        rw [List.drop_of_length_le (by have := HLL.out.2.1; omega), List.append_nil]
        exact List.take_of_length_le (by simp; have := HLL.out.2.1; omega)
      have eT : (M.map fif).take t = M.map fif := List.take_of_length_le (by simp; have := HLL.out.2.1; omega)
      have eD : (df (L.map fif) (M.map fif)).take t = df (L.map fif) (M.map fif) := List.take_of_length_le (by rw [df_len lPQ]; simp; have := HLL.out.1; omega)
      rw [eX] at hx
      rw [eY] at hy
      rw [eT] at hz
      rw [eD]
      have bP := fif_sam HLL.out.2.2.1
      have bQ := fif_sam HLL.out.2.2.2
      obtain ⟨P, hP⟩ : ∃ P, L.map fif = P := ⟨_, rfl⟩
      obtain ⟨Q, hQ⟩ : ∃ P, M.map fif = P := ⟨_, rfl⟩
      rw [hP] at hx bP lPQ ⊢
      rw [hQ] at hy hz bQ lPQ ⊢
      have lP : P.length = t := by rw [← hP]; simpa using HLL.out.1
      have lQ : Q.length = t := by rw [← hQ]; simpa using HLL.out.2.1
      have lR : (Q.map (· + a1)).length = t := by simpa using lQ
      have sP : Sam P := fun a ha => by have := bP a ha; omega
      have sQ : Sam Q := fun a ha => by have := bQ a ha; omega
      have sR : Sam (Q.map (· + a1)) := fun a ha => by
        obtain ⟨z, hz1, rfl⟩ := List.mem_map.1 ha
        have := bQ z hz1
        show _ ∧ _
        omega
      have zx := own_zi hx lP
      have zy := own_zi hy lQ
      obtain ⟨Az, cz, rfl, zz, -⟩ := row_zi hz lR
      have S1 : Hid (∀ W, Bel wr W → _) := fun W hW => shifted_ok (some ⟨xa, 0, none⟩) (some ⟨ya, 0, none⟩) xb yb t P Q (by omega) (by omega) sP sQ W (zx.bel hW) (zy.bel hW)
      have S2 : Hid (∀ W, Bel wr W → _) := fun W hW => shifted_ok (some ⟨xa, 0, none⟩) Az xb cz t P (Q.map (· + a1)) (by omega) (by omega) sP sR W (zx.bel hW) (zz.bel hW)
      have S3 : Hid (∀ W, Bel wr W → _) := fun W hW => distance_ok (some ⟨xa, 0, none⟩) Az xb cz t P (Q.map (· + a1)) (by omega) (by omega) sP sR W (zx.bel hW) (zz.bel hW)
      have hvs : vr (df P (Q.map (· + a1))) = vr (df P Q) := by rw [df_shift, vr_shift]
      rw [hvs] at S2
      have lD : (df P Q).length = t := by rw [df_len lPQ, lP]
      have lE : (df P (Q.map (· + a1))).length = t := by rw [df_len (by rw [lP, lR]), lP]
      have bD : Bd 1600 (df P Q) := df_bd bP bQ
      have q1 := susq_bd bD
      have q2 := su_bd bD
      rw [lD] at q1 q2
      have q3 := susq_bd (df_bd (sam_bd sP) (sam_bd sR))
      rw [lE] at q3
      have va0 := vr_nn (df P Q)
      have hve : vr (df P Q) = (t : Int) * su sq (df P Q) - su ix (df P Q) * su ix (df P Q) := by unfold vr; rw [lD]
      have hve2 : vr (df P Q) = (t : Int) * su sq (df P (Q.map (· + a1))) - su ix (df P (Q.map (· + a1))) * su ix (df P (Q.map (· + a1))) := by rw [← hvs]; unfold vr; rw [lE]
      have n1 := sq_nn (su ix (df P Q))
      have n2 := sq_nn (su ix (df P (Q.map (· + a1))))
      have q4 : (t : Int) * su sq (df P Q) ≤ 32 * 81920000 := Int.mul_le_mul (by omega) (by omega) q1.1 (by omega)
      have hex := exact_vr (df P Q)
      rw [lD] at hex
      obtain ⟨VA, hVA⟩ : ∃ a, vr (df P Q) = a := ⟨_, rfl⟩
      obtain ⟨DD, hDD⟩ : ∃ a, su sq (df P (Q.map (· + a1))) = a := ⟨_, rfl⟩
      obtain ⟨S, hS⟩ : ∃ a, su ix (df P Q) = a := ⟨_, rfl⟩
      rw [hVA] at S1 S2 va0 hve hve2 hex
      rw [hDD] at S3 q3 hve2
      rw [hS] at q2 hve hex n1 ⊢
      have vE : VA ≤ DD * (t : Int) := by have e : DD * (t : Int) = (t : Int) * DD := Int.mul_comm _ _; omega
      have va1 : VA ≤ 2621440000 := by omega
      have dd1 : 0 ≤ DD ∧ DD ≤ 128000000 := by omega
      obtain ⟨s0, s1⟩ : -51200 ≤ S ∧ S ≤ 51200 := by omega
      have f := make_facts (n := VA) (d := (t : Int)) va0 (by omega) (by omega) (by omega)
      have g1 := gd_pos (a := VA) (b := (t : Int)) (by omega)
      obtain ⟨G, hG⟩ : ∃ a, gd VA (t : Int) = a := ⟨_, rfl⟩
      rw [hG] at f g1 S1 S2
      obtain ⟨A1, hA1⟩ : ∃ a, VA / G = a := ⟨_, rfl⟩
      obtain ⟨A2, hA2⟩ : ∃ a, (t : Int) / G = a := ⟨_, rfl⟩
      rw [hA1, hA2] at f S1 S2
      have m1 : A1 * G = VA := f.2.2.2.2.1
      have m2 : A2 * G = (t : Int) := f.2.2.2.2.2.1
      have hRV : Ra.RV A1 A2 := f.2.2.2.2.2.2.1
      have hRV2 : Ra.RV DD 1 := ⟨⟨by omega, by omega, by decide, by decide⟩, gd_one DD⟩
      have hle : A1 * 1 ≤ DD * A2 := by
        have h1 : A1 * G ≤ DD * A2 * G := by
          have e : DD * A2 * G = DD * (t : Int) := by rw [← m2]; grind
          omega
        have := Int.le_of_mul_le_mul_right h1 (by omega)
        omega
      have hcm : cmpI (A1 * 1) (DD * A2) ≤ 0 := by
        rcases Int.lt_or_le (A1 * 1) (DD * A2) with g | g
        · rw [cmpI_lt g]; decide
        · rw [cmpI_eq (by omega)]; decide
      obtain ⟨K, hK⟩ : ∃ a, cmpI (A1 * 1) (DD * A2) = a := ⟨_, rfl⟩
      have CM : Hid (∀ W, Calls Try.prog 16 #[.agg #[.int .i64 A1, .int .i64 A2], .agg #[.int .i64 DD, .int .i64 1]] W fun e w' => e = .returned (.int .i64 K) ∧ Bel W w') := fun W => by
        have := rcmp_ok A1 A2 DD 1 hRV hRV2 W
        rwa [hK] at this
      rw [hK] at hcm
      have hEQ : A1 * (t : Int) * (t : Int) = (t : Int) * VA * A2 := by rw [← m1, ← m2]; grind
      have a1b : 0 ≤ A1 ∧ A1 ≤ VA := ⟨f.1, f.2.1⟩
      have a2b : 1 ≤ A2 ∧ A2 ≤ (t : Int) := ⟨f.2.2.1, f.2.2.2.1⟩
      have p1 : 0 ≤ A1 * (t : Int) ∧ A1 * (t : Int) ≤ 2621440000 * 32 := ⟨Int.mul_nonneg a1b.1 (by omega), Int.mul_le_mul (by omega) (by omega) (by omega) (by omega)⟩
      have p2 : 0 ≤ A1 * (t : Int) * (t : Int) ∧ A1 * (t : Int) * (t : Int) ≤ 2621440000 * 32 * 32 := ⟨Int.mul_nonneg p1.1 (by omega), Int.mul_le_mul p1.2 (by omega) (by omega) (by omega)⟩
      have p3 : 0 ≤ (t : Int) * VA ∧ (t : Int) * VA ≤ 32 * 2621440000 := ⟨Int.mul_nonneg (by omega) va0, Int.mul_le_mul (by omega) va1 va0 (by omega)⟩
      obtain ⟨X, hX⟩ : ∃ a, (t : Int) * VA = a := ⟨_, rfl⟩
      rw [hX] at hex hEQ p3
      obtain ⟨F, hF⟩ : ∃ a, A1 * (t : Int) * (t : Int) = a := ⟨_, rfl⟩
      rw [hF] at hEQ p2
      have wA : wrap64 (A1 * (t : Int)) = A1 * (t : Int) := IntWalk.wrap64_in _ (by omega)
      have wB : wrap64 (A1 * (t : Int) * (t : Int)) = F := by rw [hF]; exact IntWalk.wrap64_in _ (by omega)
      have wC : wrap64 (X * A2) = F := by rw [← hEQ]; exact IntWalk.wrap64_in _ (by omega)
      have HDEF := Lib.hid (And.intro hP (And.intro hQ (And.intro hVA (And.intro hDD (And.intro hS (And.intro hG (And.intro hA1 (And.intro hA2 (And.intro hK (And.intro hX (And.intro hF hEQ)))))))))))
      have HFB := Lib.hid hb
      have HZX := Lib.hid (And.intro zx (And.intro zy (And.intro lP (And.intro lQ (And.intro lD (And.intro bP (And.intro bQ (And.intro hex lPQ))))))))
      clear hx hy hz hb HX HY HZ eX eY eT eD bP bQ hP hQ lP lQ lR sP sQ sR zx zy zz hvs lD lE bD q1 q2 q3 va0 hve hve2 n1 n2 q4 hex hVA hDD hS vE va1 f g1 hG hA1 hA2 m1 m2 hRV hRV2 hle hK hEQ a1b a2b p1 p2 p3 hX hF lPQ
      go_wp2_with fail
      go_at_call 15
      refine (S1.out _ (Bel.rf)).mono ?_
      rintro e p1 ⟨rfl, hp⟩
      have K1 : Hid (Bel wr p1) := hp
      have HA1 := Lib.hid (Bk.nw p1 37 #[.int .i64 A1, .int .i64 A2])
      clear hp
      go_wp2_with fail
      go_at_call 15
      refine (S2.out _ (K1.out.al _)).mono ?_
      rintro e p2 ⟨rfl, hp⟩
      have K2 : Hid (Bel wr p2) := Bel.tr (K1.out.al _) hp
      have HA2 := Lib.hid ((HA1.out.bel hp).al (.cells #[.int .i64 A1, .int .i64 A2] 37))
      have HB2' := Lib.hid (Bk.nw p2 37 #[.int .i64 A1, .int .i64 A2])
      clear hp
      go_wp2_with fail
      go_at_call 11
      refine (S3.out _ (K2.out.al _)).mono ?_
      rintro e p3 ⟨rfl, hp⟩
      have K3 : Hid (Bel wr p3) := Bel.tr (K2.out.al _) hp
      have HA3 := Lib.hid (HA2.out.bel hp)
      have HB3 := Lib.hid (HB2'.out.bel hp)
      clear hp
      have wp : ∀ x : Int, -1000 ≤ x → x ≤ 1000 → -32000 ≤ (t : Int) * x ∧ (t : Int) * x ≤ 32000 := fun x h0 h1 => by
        have e1 : 0 ≤ (t : Int) * (x + 1000) := Int.mul_nonneg (by omega) (by omega)
        have e2 : 0 ≤ (t : Int) * (1000 - x) := Int.mul_nonneg (by omega) (by omega)
        have e3 : (t : Int) * (x + 1000) = (t : Int) * x + (t : Int) * 1000 := by grind
        have e4 : (t : Int) * (1000 - x) = (t : Int) * 1000 - (t : Int) * x := by grind
        omega
      have WP := Lib.hid wp
      have HWW := Lib.hid (And.intro wA (And.intro wB wC))
      clear wp wA wB wC
      go_wp2
      go_loopw [18, 94] (fun s18 s94 wq => ∃ (q : Nat) (V : World) (y : Int), V = wq ∧ q ≤ t ∧ s94 = .int .i64 (q : Int) ∧ s18 = .int .i64 y ∧ y = su sq (((df P Q).map fun d => (t : Int) * d - S).take q) ∧ Bel p3 wq) (fun _ s94 _ => t - (intOf s94).toNat)
      case atStart => exact ⟨0, _, 0, rfl, by omega, rfl, rfl, by simp [su], Bel.rf⟩
      case round =>
        obtain ⟨q, wq, y, hwq, hq, rfl, rfl, hy, hb'⟩ := hrel
        subst hwq
        have HBQ := Lib.hid hb'
        have HYV := Lib.hid hy
        have lM : ((df P Q).map fun d => (t : Int) * d - S).length = t := by rw [List.length_map]; exact HZX.out.2.2.2.2.1
        rcases Nat.lt_or_ge q t with hqt | hqt
        · have hbw : Bel wr wq := K3.out.tr hb'
          have c1 := (HZX.out.1.bel hbw).at q hqt
          have c2 := (HZX.out.2.1.bel hbw).at q hqt
          have px : -1000 ≤ P.getD q 0 ∧ P.getD q 0 ≤ 1000 := Sam.at (fun a ha => by have := HZX.out.2.2.2.2.2.1 a ha; omega) q
          have py : -1000 ≤ Q.getD q 0 ∧ Q.getD q 0 ≤ 1000 := Sam.at (fun a ha => by have := HZX.out.2.2.2.2.2.2.1 a ha; omega) q
          have hn := su_next sq ((df P Q).map fun d => (t : Int) * d - S) q (by omega)
          have hat : ((df P Q).map fun d => (t : Int) * d - S).getD q 0 = (t : Int) * (P.getD q 0 - Q.getD q 0) - S := by
            rw [← df_at HZX.out.2.2.2.2.2.2.2.2 q (by have := HZX.out.2.2.1; omega)]
            simp [List.getD_eq_getElem?_getD, show q < (df P Q).length by have := HZX.out.2.2.2.2.1; omega]
          obtain ⟨x, hx⟩ : ∃ x, P.getD q 0 = x := ⟨_, rfl⟩
          obtain ⟨z, hz⟩ : ∃ x, Q.getD q 0 = x := ⟨_, rfl⟩
          rw [hx] at c1 px hat
          rw [hz] at c2 py hat
          have e0 : (t : Int) * (x - z) - S = (t : Int) * x - (t : Int) * z - S := by grind
          rw [hat, e0, ← hy] at hn
          unfold sq at hn
          have wx := WP.out x px.1 px.2
          have wz := WP.out z py.1 py.2
          obtain ⟨X1, hX1⟩ : ∃ a, (t : Int) * x = a := ⟨_, rfl⟩
          obtain ⟨Z1, hZ1⟩ : ∃ a, (t : Int) * z = a := ⟨_, rfl⟩
          rw [hX1] at wx hn
          rw [hZ1] at wz hn
          have bm : Bd 115200 ((df P Q).map fun d => (t : Int) * d - S) := fun a ha => by
            obtain ⟨d, hd, rfl⟩ := List.mem_map.1 ha
            have bd := (df_bd HZX.out.2.2.2.2.2.1 HZX.out.2.2.2.2.2.2.1) d hd
            have e1 : 0 ≤ (t : Int) * (d + 1600) := Int.mul_nonneg (by omega) (by omega)
            have e2 : 0 ≤ (t : Int) * (1600 - d) := Int.mul_nonneg (by omega) (by omega)
            have e3 : (t : Int) * (d + 1600) = (t : Int) * d + (t : Int) * 1600 := by grind
            have e4 : (t : Int) * (1600 - d) = (t : Int) * 1600 - (t : Int) * d := by grind
            show _ ∧ _
            omega
          have bs := susq_bd (bm.take q)
          rw [← hy] at bs
          have tl : ((((df P Q).map fun d => (t : Int) * d - S).take q).length : Int) ≤ 32 := by have := List.length_take_le q ((df P Q).map fun d => (t : Int) * d - S); omega
          have s2 := sq_bd (B := 115200) (x := X1 - Z1 - S) (by omega) (by omega)
          have w1 : IntKind.i64.wrap ((t : Int) * x) = X1 := by rw [hX1]; exact IntWalk.i64_in _ (by omega)
          have w2 : IntKind.i64.wrap ((t : Int) * z) = Z1 := by rw [hZ1]; exact IntWalk.i64_in _ (by omega)
          have w3 : IntKind.i64.wrap (X1 - Z1) = X1 - Z1 := IntWalk.i64_in _ (by omega)
          have w4 : IntKind.i64.wrap (X1 - Z1 - S) = X1 - Z1 - S := IntWalk.i64_in _ (by omega)
          have w5 : IntKind.i64.wrap ((X1 - Z1 - S) * (X1 - Z1 - S)) = (X1 - Z1 - S) * (X1 - Z1 - S) := IntWalk.i64_in _ (by omega)
          have w6 : IntKind.i64.wrap (y + (X1 - Z1 - S) * (X1 - Z1 - S)) = y + (X1 - Z1 - S) * (X1 - Z1 - S) := IntWalk.i64_in _ (by omega)
          have HN := Lib.hid hn
          have qi : (q : Int) < (t : Int) := by omega
          have HXZ := Lib.hid (And.intro hx (And.intro hz (And.intro hX1 hZ1)))
          clear hb' hy hbw hn hat hx hz e0 bm bs tl s2 hX1 hZ1 lM
          go_wp2
          go_quiet (fail)
          go_wp2
          go_roundw
          case rel => exact ⟨q + 1, _, _, rfl, by omega, by go_num, rfl, HN.out.symm, by first | exact HBQ.out.drwN _ | exact HBQ.out.drw | exact HBQ.out⟩
          case measure => simp [intOf]; omega
        · obtain rfl : q = t := by omega
          have hfull : ((df P Q).map fun d => (q : Int) * d - S).take q = (df P Q).map fun d => (q : Int) * d - S := List.take_of_length_le (by omega)
          rw [hfull, HZX.out.2.2.2.2.2.2.2.1] at hy
          subst hy
          have ba := HA3.out.bel hb'
          have bb := HB3.out.bel hb'
          have a0' : wq.cell? ⟨p1.heap.size, 0, none⟩ = some (.int .i64 A1) := ba.cell 0
          have a1' : wq.cell? ⟨p1.heap.size, 1, none⟩ = some (.int .i64 A2) := ba.cell 1
          have b0' : wq.cell? ⟨p2.heap.size, 0, none⟩ = some (.int .i64 A1) := bb.cell 0
          have b1' : wq.cell? ⟨p2.heap.size, 1, none⟩ = some (.int .i64 A2) := bb.cell 1
          have HFIN := Lib.hid (K3.out.tr hb')
          obtain ⟨wA, wB, wC⟩ := HWW.out
          clear hb' ba bb hfull lM
          go_wp2_with fail
          go_at_call 16
          refine (CM.out _).mono ?_
          rintro e p7 ⟨rfl, hp⟩
          go_wp2_with (go_at_call 14; refine (AW.out _).mono ?_; rintro e w9 ⟨rfl, hb9⟩)
          go_ret
          exact ⟨rfl, (((HFB.out.tr HFIN.out).tr hp).tr hb9).bl⟩

set_option maxRecDepth 100000 in
theorem lifted (os : Os) (started : os.Started) (H : Type) (enc : TypeId × Value → H) :
    ReturnsInHanded {} Try.checked os 4 .any (Rows.euclidShiftsSpec.pre6 enc Try.prog Try.f4 Rows.euclidShiftsRow.domain false) (Rows.euclidShiftsSpec.post enc Try.prog Try.f4 false true false false) := by
  refine returnsInHanded_of_change (C := Try.checked) own started (by kernel_rfl) Try.func4
    (ChangeSpec.witness6 (enc := enc) (C := Try.checked) false ⟨#[], #[.slice none 0 0, .int .i8 0], []⟩ 8 (by kernel_rfl) (by kernel_rfl) (by kernel_rfl) (by kernel_rfl)) ?_
  intro W base args ds gs before hval0 hW hcnd _
  have hval : ∀ (j : Nat) t v, Try.f4.params[j]? = some t → args[j]? = some v → Value.okWide Try.prog W .any base t v := hval0
  have hW' := hW
  obtain ⟨p, q, hA0, hV, rfl, hfz, hnd⟩ := hW
  have hA : DataW.TrodAll enc Try.prog W 0 (fun _ => true) true Try.f4.params.toList args.toList ds p := hA0
  rw [Try.params4] at hA hval
  obtain ⟨v0, vs0, d0, ds0, p0, q0, hargs, rfl, rfl, h0, r0⟩ := trodAll_cons hA
  obtain ⟨v1, vs1, d1, ds1, p1, q1, rfl, rfl, rfl, h1, r1⟩ := trodAll_cons r0
  obtain ⟨rfl, rfl, rfl⟩ := trodAll_nil r1
  obtain rfl : args = #[v0, v1] := by cases args; simp_all
  obtain ⟨rfl, rfl⟩ := trodVars_none hV
  obtain ⟨a0, len0, cap0, rfl⟩ := okWide_slice Try.underlying22 (hval 0 22 v0 rfl rfl)
  have k0 := h0
  have lt0 : ∀ x ∈ p0, x.block < W.heap.size := by obtain ⟨m, hm⟩ := k0; exact DataW.trod_lt m _ _ _ hm
  obtain ⟨z0, w0⟩ : ∃ zs, IsRow .i64 W a0 len0 cap0 zs := by
    obtain ⟨fuel, hf⟩ := h0
    rcases open_ints Try.underlying22 Try.underlying3 (by kernel_rfl) hf with ⟨hcs, _⟩ | ⟨x, l, c, zs, hcs, _, hl, hm, hz, _, hcell, hwz⟩
    · simp [Value.cells] at hcs
      obtain ⟨rfl, rfl, rfl⟩ := hcs
      exact ⟨[], .inl ⟨rfl, rfl, rfl, rfl⟩⟩
    · simp [Value.cells] at hcs
      obtain ⟨rfl, rfl, rfl⟩ := hcs
      exact ⟨zs, .inr ⟨_, rfl, hl, hm, by simpa using hz, hcell, hwz⟩⟩
  obtain ⟨a1, rfl, rfl, rfl, w1⟩ := open_int Try.underlying35 (hval 1 35 v1 rfl rfl) h1
  clear hA0 hval0
  refine (walk a0 len0 cap0 z0 a1 W w0 w1).mono fun e W' ⟨he, bel⟩ => ?_
  subst he
  exact ⟨_, rfl, _, _, _, [], _, [], hW', trodAll_mk1 (shut_bool Try.underlying4 _), (trodAll_cons_mk (Below.trod laidOut (by kernel_rfl) (of_decide_eq_true (by kernel_rfl)) k0 bel lt0) (trodAll_cons_mk (shut_int Try.underlying35 w1) trodAll_mk0)), rfl, bel.frame _, fun h => by cases h⟩

theorem over : Rows.euclidShiftsRow.holds Try.pinned (OpenSpec.ofChange Rows.euclidShiftsSpec) :=
  OpenClaim.holds_of_wide 4 Try.f4 rfl rfl rfl rfl rfl rfl rfl ⟨rfl, rfl, rfl, rfl, rfl⟩ rfl rfl rfl rfl rfl (by kernel_rfl) Try.func4 (by kernel_rfl)
    (of_decide_eq_true (by kernel_rfl)) (by unfold Func.isWrapper; first | (rw [if_pos (by decide +kernel)]; kernel_rfl) | (rw [if_neg (by decide +kernel)]; exact ⟨rfl, rfl⟩))
    (fun os started H enc _ => lifted os started H enc)

theorem proved : Rows.EuclidShiftsSaid := over
end Go.Proofs.Ytbmibdgdabgcbaa.euclidShifts
