/- The contract of the reference of layer 14: Fill. -/
import Derived.Test.YthmdponfigepjaaR14b
import Derived.Deep.RegionWith
import Derived.Deep.RegionHeld3
import Derived.Test.YthmdponfigepjaaRegionInv
namespace Go.Proofs.Ythmdponfigepjaa.R14
open Go.ChangeShapes Go.WideShapes Go.RowKit Wo Sr Wi Eu Ev
set_option linter.unusedVariables false
theorem rep_get {q n : Nat} : (Array.replicate n false).getD q false = false := by
  rw [Array.getD_eq_getD_getElem?, Array.getElem?_replicate]
  split <;> simp
theorem get_def {li : Array Bool} {q : Nat} (h : li.getD q false = true) : li.getD q true = true := by
  rw [Array.getD_eq_getD_getElem?] at h ⊢
  cases hx : li[q]?
  · rw [hx] at h; cases h
  · rw [hx] at h; exact h
theorem get_set {li : Array Bool} {q : Nat} (h : li.getD q true = false) : (li.setIfInBounds q true).getD q false = true := by
  rw [Array.getD_eq_getD_getElem?] at h ⊢
  have hl : q < li.size := by
    rcases Nat.lt_or_ge q li.size with hl | hl
    · exact hl
    · rw [Array.getElem?_eq_none hl] at h; cases h
  rw [Array.getElem?_setIfInBounds, if_pos rfl, if_pos hl]; rfl
def crow (X Y : List Int) (m i : Nat) : List Int := (List.range m).map fun j => cst X Y i j
theorem crow_at (X Y : List Int) (m i j : Nat) (h : j < m) : (crow X Y m i).getD j 0 = cst X Y i j := by
  rw [List.getD_eq_getElem?_getD, crow, List.getElem?_map, List.getElem?_range h]; rfl
theorem info_row : (Try.prog.info? 22).map (fun i => (i.zero, i.size, i.bytes)) = some (some (.slice none 0 0), 1, 24) := by kernel_rfl
def nils (n : Nat) : Array Value := (List.replicate n (Value.slice none 0 0)).toArray
theorem made_nil (n : Nat) : madeCells (Value.slice none 0 0).cells (n * 1) = nils n := by
  apply Array.ext
  · simp [madeCells, nils]
  · intro i h1 h2
    simp [madeCells, nils, Nat.mod_one, Value.cells]
theorem kp_fb {W : World} {a b i j : Nat} {v : Value} (h : W.cell? ⟨a, i, none⟩ = some v) (hne : a ≠ b) (u : Value) : (W.setCell ⟨b, j, none⟩ u).cell? ⟨a, i, none⟩ = some v :=
  (World.cell?_setCell_other _ _ _ _ (fun e => by have := congrArg Addr.block e; simp at this; omega)).trans h
/-- a table of rows, to be written -/
structure TW (w : World) (h n m : Nat) (rr : Nat → Nat) (R : Nat → List Int) : Prop where
  lt : h < w.heap.size
  at' : ∀ p, p < n → w.cell? ⟨h, p, none⟩ = some (.slice (some ⟨rr p, 0, none⟩) m m)
  bk : ∀ p, p < n → Bk w (rr p) 3 (zs (R p)).toArray
  len : ∀ p, p < n → (R p).length = m
  inj : ∀ p q, p < n → q < n → rr p = rr q → p = q
  ne : ∀ p, p < n → rr p ≠ h
theorem TW.bel {w w' : World} {h n m : Nat} {rr : Nat → Nat} {R : Nat → List Int} (t : TW w h n m rr R) (hb : Bel w w') : TW w' h n m rr R :=
  ⟨Nat.lt_of_lt_of_le t.lt hb.size, fun p hp => (Below.cell (p := ⟨h, p, none⟩) hb t.lt).trans (t.at' p hp), fun p hp => (t.bk p hp).bel hb, t.len, t.inj, t.ne⟩
theorem TW.tr {w : World} {h n m : Nat} {rr : Nat → Nat} {R : Nat → List Int} (t : TW w h n m rr R) : TR w h n m R := ⟨t.lt, fun p hp => ⟨rr p, m, t.at' p hp, zi_bk (t.bk p hp) m (t.len p hp)⟩⟩
theorem TW.st {w : World} {h n m i j : Nat} {rr : Nat → Nat} {R : Nat → List Int} (t : TW w h n m rr R) (hi : i < n) (z : Int) : TW (w.setCell ⟨rr i, j, none⟩ (.int .i64 z)) h n m rr (fun p => if p = i then (R i).set j z else R p) := by
  refine ⟨by simpa [World.setCell] using t.lt, fun p hp => ?_, fun p hp => ?_, fun p hp => ?_, t.inj, t.ne⟩
  · refine (World.cell?_setCell_other _ _ _ _ (fun e => ?_)).trans (t.at' p hp)
    injection e with e
    exact t.ne i hi (by omega)
  · show Bk _ _ _ (zs (if p = i then (R i).set j z else R p)).toArray
    rcases Classical.em (p = i) with rfl | hpi
    · rw [if_pos rfl]
      have := (t.bk p hp).st j (.int .i64 z)
      rwa [zs_set] at this
    · rw [if_neg hpi]
      exact (t.bk p hp).far (fun e => hpi (t.inj p i hp hi e)) _
  · show (if p = i then (R i).set j z else R p).length = m
    split
    · rw [List.length_set]; exact t.len i hi
    · exact t.len p hp
/-- the pairs before (i, j) within the band are filled in -/
def Don (X Y : List Int) (b : Int) (m i j : Nat) (R : Nat → List Int) : Prop := ∀ p q, (p < i ∨ (p = i ∧ q < j)) → q < m → Bnd b p q → (R p).getD q 0 = wt X Y b (p + 1) (q + 1)
theorem set_at (L : List Int) (j q : Nat) (z : Int) (hj : j < L.length) : (L.set j z).getD q 0 = if q = j then z else L.getD q 0 := by
  rcases Classical.em (q = j) with rfl | h
  · rw [if_pos rfl, List.getD_eq_getElem?_getD, List.getElem?_set_self hj]; rfl
  · rw [if_neg h, List.getD_eq_getElem?_getD, List.getElem?_set_ne (fun e => h e.symm), ← List.getD_eq_getElem?_getD]
theorem Don.set {X Y : List Int} {b : Int} {m i j : Nat} {R : Nat → List Int} (h : Don X Y b m i j R) (hj : j < m) (hl : (R i).length = m) (z : Int) : Don X Y b m i j (fun p => if p = i then (R i).set j z else R p) := fun p q h1 h2 h3 => by
  show (if p = i then (R i).set j z else R p).getD q 0 = _
  rcases Classical.em (p = i) with rfl | hp
  · rw [if_pos rfl, set_at _ _ _ _ (by omega), if_neg (by omega)]
    exact h p q h1 h2 h3
  · rw [if_neg hp]
    exact h p q h1 h2 h3
theorem Don.put {X Y : List Int} {b : Int} {m i j : Nat} {R : Nat → List Int} (h : Don X Y b m i j R) (hj : j < m) (hl : (R i).length = m) (z : Int) (hz : z = wt X Y b (i + 1) (j + 1)) : Don X Y b m i (j + 1) (fun p => if p = i then (R i).set j z else R p) := fun p q h1 h2 h3 => by
  show (if p = i then (R i).set j z else R p).getD q 0 = _
  rcases Classical.em (p = i) with rfl | hp
  · rw [if_pos rfl, set_at _ _ _ _ (by omega)]
    split
    · rename_i e; rw [e]; exact hz
    · exact h p q (by omega) h2 h3
  · rw [if_neg hp]
    exact h p q (by omega) h2 h3
theorem Don.skip {X Y : List Int} {b : Int} {m i j : Nat} {R : Nat → List Int} (h : Don X Y b m i j R) (hn : ¬ Bnd b i j) : Don X Y b m i (j + 1) R := fun p q h1 h2 h3 => by
  rcases (show (p < i ∨ (p = i ∧ q < j)) ∨ (p = i ∧ q = j) by omega) with h4 | ⟨rfl, rfl⟩
  · exact h p q h4 h2 h3
  · exact absurd h3 hn
theorem Don.row {X Y : List Int} {b : Int} {m i : Nat} {R : Nat → List Int} (h : Don X Y b m i m R) : Don X Y b m (i + 1) 0 R := fun p q h1 h2 h3 => h p q (by omega) h2 h3
/-- what At returns for the three pairs before one -/
theorem atv_wt {X Y : List Int} {b : Int} {n m i j : Nat} {R : Nat → List Int} (h : Don X Y b m i j R) (hi : i < n) (hj : j < m) (hB : Bnd b i j) (h0 : 0 < i + j) :
    atv n m b R ((i : Int) - 1) ((j : Int) - 1) = wt X Y b i j ∧ atv n m b R ((i : Int) - 1) (j : Int) = wt X Y b i (j + 1) ∧ atv n m b R (i : Int) ((j : Int) - 1) = wt X Y b (i + 1) j := by
  have inb : ∀ p q : Nat, p < n → q < m → (p < i ∨ (p = i ∧ q < j)) → atv n m b R (p : Int) (q : Int) = wt X Y b (p + 1) (q + 1) := fun p q hp hq hpq => by
    unfold atv
    rcases Classical.em (Bnd b p q) with hb | hb
    · rw [if_pos ⟨by omega, by omega, by omega, by omega, hb.1, hb.2⟩]
      simp only [Int.toNat_natCast]
      exact h p q hpq hq hb
    · rw [if_neg (fun hh => hb ⟨hh.2.2.2.2.1, hh.2.2.2.2.2⟩), wt_out _ _ _ _ _ hb]
  have neg1 : ∀ J : Int, atv n m b R (-1) J = far := fun J => if_neg (fun hh => by have := hh.1; omega)
  have neg2 : ∀ I : Int, atv n m b R I (-1) = far := fun I => if_neg (fun hh => by have := hh.2.1; omega)
  rcases i with _ | i
  · rcases j with _ | j
    · omega
    · have e : (((0 : Nat) : Int) - 1) = -1 := by omega
      have e2 : ((j + 1 : Nat) : Int) - 1 = (j : Int) := by omega
      rw [e, e2, neg1, neg1, wt_0s, wt_0s]
      exact ⟨rfl, rfl, inb 0 j hi (by omega) (by omega)⟩
  · have e1 : ((i + 1 : Nat) : Int) - 1 = (i : Int) := by omega
    rw [e1]
    rcases j with _ | j
    · have e : (((0 : Nat) : Int) - 1) = -1 := by omega
      rw [e, neg2, neg2, wt_s0, wt_s0]
      exact ⟨rfl, inb i 0 (by omega) hj (by omega), rfl⟩
    · have e2 : ((j + 1 : Nat) : Int) - 1 = (j : Int) := by omega
      rw [e2]
      exact ⟨inb i j (by omega) (by omega) (by omega), inb i (j + 1) (by omega) hj (by omega), inb (i + 1) j hi (by omega) (by omega)⟩
theorem wt_first (X Y : List Int) (b : Int) (hB : Bnd b 0 0) : wt X Y b 1 1 = cst X Y 0 0 := by
  rw [wt_in _ _ _ _ _ hB, wt_00, wt_0s, wt_s0]
  unfold mn3 mn far
  rw [if_pos (by decide), if_pos (by decide)]; omega
set_option maxHeartbeats 4000000 in
set_option maxRecDepth 100000 in
theorem fill_ok (g c n m : Nat) (b : Int) (X Y : List Int) (n1 : 1 ≤ n) (n2 : n ≤ 32) (m1 : 1 ≤ m) (m2 : m ≤ 32) (b0 : 0 ≤ b) (b32 : b ≤ 32) (hs : Sam X) (ht : Sam Y) (w : World) (hr : TR w g n m (crow X Y m)) :
    Calls Try.prog 44 #[.slice (some ⟨g, 0, none⟩) n c, .int .i64 b] w fun e w' => ∃ h rr R, e = .returned (.slice (some ⟨h, 0, none⟩) n n) ∧ TW w' h n m rr R ∧ Don X Y b m n 0 R ∧ Bel w w' := by
  obtain ⟨i0, hi0, hz0, hz1, hz2⟩ := info_parts info_int
  have HI := Lib.hid (And.intro hi0 (And.intro hz0 (And.intro hz1 hz2)))
  obtain ⟨j0, hj0, hj1, hj2, hj3⟩ := info_parts info_row
  have HJ := Lib.hid (And.intro hj0 (And.intro hj1 (And.intro hj2 hj3)))
  clear hi0 hz0 hz1 hz2 hj0 hj1 hj2 hj3
  have HR := Lib.hid hr
  have HS := Lib.hid (And.intro hs ht)
  have a1 : 1 ≤ (n : Int) := by omega
  have a2 : (n : Int) ≤ 32 := by omega
  have a3 : 1 ≤ (m : Int) := by omega
  have a4 : (m : Int) ≤ 32 := by omega
  obtain ⟨W0, hW0⟩ : ∃ W0, W0 = w.alloc (.cells (nils n) 22) := ⟨_, rfl⟩
  obtain ⟨h, hh⟩ : ∃ h, w.heap.size = h := ⟨_, rfl⟩
  have HB0 : Hid (Bel w W0) := by rw [hW0]; exact Bel.rf.al _
  have HK0 : Hid (Bk W0 h 22 (nils n)) := by rw [hW0, ← hh]; exact Bk.nw _ _ _
  have HW0 := Lib.hid hW0
  have HHH := Lib.hid hh
  clear hr hs ht hW0
  go_enter Try.func44, Try.ntmps44
  go_wp2_with (refine wpList_make_any _ rfl (.tmp 11) (.tmp 11) 39 rfl 22 j0 (.slice none 0 0) 1 Try.underlying39 HJ.out.1 HJ.out.2.1 HJ.out.2.2.1 .i64 .i64 _ _ n n rfl rfl rfl rfl (by omega) (by rw [HJ.out.2.2.2]; omega) (by omega) ?_; rw [made_nil, ← HW0.out, hh])
  go_loopw [15] (fun s15 wr => ∃ (i : Nat) (cs : Array Value) (rr : Nat → Nat) (V : World), V = wr ∧ i ≤ n ∧ s15 = .int .i64 (i : Int) ∧ Bk wr h 22 cs ∧ cs.size = n ∧ (∀ p, p < i → cs[p]? = some (.slice (some ⟨rr p, 0, none⟩) m m) ∧ Bk wr (rr p) 3 (zs (List.replicate m 0)).toArray ∧ h < rr p) ∧ (∀ p q, p < i → q < i → rr p = rr q → p = q) ∧ Bel w wr) (fun s15 _ => n - (intOf s15).toNat)
  case atStart => exact ⟨0, nils n, fun _ => 0, _, rfl, by omega, rfl, HK0.out, by simp [nils], fun p hp => by omega, fun p q hp => by omega, HB0.out⟩
  case round =>
    obtain ⟨i, cs, rr, wr, hwr, hi, rfl, hbk, hcs, hrow, hinj, hb⟩ := hrel
    subst hwr
    have HBK := Lib.hid hbk
    have HROW := Lib.hid (And.intro hcs (And.intro hrow hinj))
    have HB := Lib.hid hb
    have hlth := hbk.lt
    clear hcs hrow hinj
    rcases Nat.lt_or_ge i n with hin | hin
    · have ii : (i : Int) < (n : Int) := by omega
      obtain ⟨r, cc, e1, _⟩ := (HR.out.bel hb).2 i hin
      have e2 := hbk.cell i
      obtain ⟨v, hv⟩ : ∃ v, cs[i]? = some v := ⟨cs[i]'(by rw [HROW.out.1]; exact hin), Array.getElem?_eq_getElem _⟩
      rw [hv] at e2
      have eA : ∀ o, (wr.alloc o).cell? ⟨h, i, none⟩ = some v := fun o => kp_al e2 o
      have fA : ∀ o, (wr.alloc o).frozen? ⟨h, i, none⟩ = false := fun o => (hbk.al o).fr i
      clear hbk hb hv
      go_wp2_with (refine wpList_make_any _ rfl (.tmp 24) (.tmp 24) 22 rfl 3 i0 (.int .i64 0) 1 Try.underlying22 HI.out.1 HI.out.2.1 HI.out.2.2.1 .i64 .i64 _ _ m m rfl rfl rfl rfl (by omega) (by rw [HI.out.2.2.2]; omega) (by omega) ?_; rw [made_i64])
      go_roundw
      case rel =>
        refine ⟨i + 1, cs.setIfInBounds i (.slice (some ⟨wr.heap.size, 0, none⟩) m m), fun p => if p = i then wr.heap.size else rr p, _, rfl, by omega, by go_num, (HBK.out.st i _).al _, by simpa using HROW.out.1, fun p hp => ?_, fun p q hp hq e => ?_, (HB.out.st (p := ⟨h, i, none⟩) (by rw [HHH.out]; exact Nat.le_refl h) _).al _⟩
        · show _ = some (Value.slice (some ⟨if p = i then wr.heap.size else rr p, 0, none⟩) m m) ∧ Bk _ (if p = i then wr.heap.size else rr p) _ _ ∧ h < (if p = i then wr.heap.size else rr p)
          rcases Classical.em (p = i) with rfl | hpi
          · rw [if_pos rfl]
            exact ⟨Array.getElem?_setIfInBounds_self_of_lt (by rw [HROW.out.1]; exact hin), Bk.nq _ _ _ (by simp [World.setCell]), hlth⟩
          · rw [if_neg hpi]
            obtain ⟨q1, q2, q3⟩ := HROW.out.2.1 p (by omega)
            exact ⟨by rw [Array.getElem?_setIfInBounds_ne (fun e => hpi e.symm)]; exact q1, (q2.far (by show rr p ≠ h; omega) _).al _, q3⟩
        · have hlt : ∀ x, x < i → rr x < wr.heap.size := fun x hx => (HROW.out.2.1 x hx).2.1.lt
          have e' : (if p = i then wr.heap.size else rr p) = (if q = i then wr.heap.size else rr q) := e
          rcases Classical.em (p = i) with hp1 | hp1
          · rcases Classical.em (q = i) with hq1 | hq1
            · omega
            · rw [if_pos hp1, if_neg hq1] at e'
              have := hlt q (by omega); omega
          · rcases Classical.em (q = i) with hq1 | hq1
            · rw [if_neg hp1, if_pos hq1] at e'
              have := hlt p (by omega); omega
            · rw [if_neg hp1, if_neg hq1] at e'
              exact HROW.out.2.2 p q (by omega) (by omega) e'
      case measure => simp [intOf]; omega
    · obtain rfl : i = n := by omega
      have HTW : Hid (TW wr h i m rr (fun _ => List.replicate m 0)) := ⟨hlth, fun p hp => by rw [HBK.out.cell p]; exact (HROW.out.2.1 p hp).1, fun p hp => (HROW.out.2.1 p hp).2.1, fun p hp => List.length_replicate, HROW.out.2.2, fun p hp => by have := (HROW.out.2.1 p hp).2.2; omega⟩
      have HB1 := Lib.hid hb
      have HGE : Hid (∀ p, p < i → h < rr p) := fun p hp => (HROW.out.2.1 p hp).2.2
      clear hbk hb
      go_wp2
      go_loopw [30] (fun s30 wq => ∃ (p : Nat) (R : Nat → List Int) (V : World), V = wq ∧ p ≤ i ∧ s30 = .int .i64 (p : Int) ∧ TW wq h i m rr R ∧ Don X Y b m p 0 R ∧ Bel w wq) (fun s30 _ => i - (intOf s30).toNat)
      case atStart => exact ⟨0, _, _, rfl, by omega, rfl, HTW.out, fun p q h1 h2 h3 => by omega, HB1.out⟩
      case round =>
        obtain ⟨p, R, wq, hwq, hp, rfl, htw, hdn, hb⟩ := hrel
        subst hwq
        have HT := Lib.hid (And.intro htw hdn)
        have HBQ := Lib.hid hb
        clear htw hdn
        rcases Nat.lt_or_ge p i with hpi | hpi
        · have pi : (p : Int) < (i : Int) := by omega
          obtain ⟨r0, cc0, e1, _⟩ := (HR.out.bel hb).2 p hpi
          clear hb
          go_wp2
          clear e1
          go_loopw [38] (fun s38 wz => ∃ (q : Nat) (R : Nat → List Int) (V : World), V = wz ∧ q ≤ m ∧ s38 = .int .i64 (q : Int) ∧ TW wz h i m rr R ∧ Don X Y b m p q R ∧ Bel w wz) (fun s38 _ => m - (intOf s38).toNat)
          case atStart => exact ⟨0, R, _, rfl, by omega, rfl, HT.out.1, HT.out.2, HBQ.out⟩
          case round =>
            obtain ⟨q, R, wz, hwz, hq, rfl, htw, hdn, hb⟩ := hrel
            subst hwz
            have HT2 := Lib.hid (And.intro htw hdn)
            have HBZ := Lib.hid hb
            rcases Nat.lt_or_ge q m with hqm | hqm
            · have qi : (q : Int) < (m : Int) := by omega
              obtain ⟨r, cc, e1, hzr⟩ := (HR.out.bel hb).2 p hpi
              have e2 := hzr.at q hqm
              rw [crow_at X Y m p q hqm] at e2
              have cb := cst_in HS.out.1 HS.out.2 p q
              have e3 := htw.at' p hpi
              have hbkp := htw.bk p hpi
              have hlen := htw.len p hpi
              have e4 := bk_at hbkp q (by rw [hlen]; exact hqm)
              have f4 : wz.frozen? ⟨rr p, q, none⟩ = false := hbkp.fr q
              obtain ⟨z0, hz0⟩ : ∃ z, cst X Y p q = z := ⟨_, rfl⟩
              rw [hz0] at e2 cb
              have HZ0 := Lib.hid hz0
              generalize (R p).getD q 0 = old at e4
              clear htw hdn hb hzr hbkp hlen hz0
              rcases Classical.em (Bnd b p q) with hB | hB
              · have OK : Hid (∀ W, _) := fun W => out_no i m b (p : Int) (q : Int) ⟨by omega, by omega, pi, qi, hB.1, hB.2⟩ (by omega) (by omega) W
                have HBN := Lib.hid hB
                clear hB
                go_wp2_with fail
                go_at_call 64
                refine (OK.out _).mono ?_
                rintro e w5 ⟨rfl, rfl⟩
                go_wp2
                go_region
                all_goals
                  obtain ⟨W1, hW1⟩ : ∃ W1, W1 = (wz.setCell ⟨rr p, q, none⟩ (.int .i64 z0)).drew := ⟨_, rfl⟩
                  have hgt : h ≤ rr p := by have := HGE.out p hpi; omega
                  have htw1 : TW W1 h i m rr (fun x => if x = p then (R p).set q z0 else R x) := by rw [hW1]; exact (HT2.out.1.st hpi z0).bel Bel.rf.drw
                  have hdn1 := HT2.out.2.set hqm (HT2.out.1.len p hpi) z0
                  have hb1 : Bel w W1 := by rw [hW1]; exact (HBZ.out.st (p := ⟨rr p, q, none⟩) (by show w.heap.size ≤ rr p; rw [HHH.out]; exact hgt) _).drw
                  have hdp := HT2.out.2.put hqm (HT2.out.1.len p hpi) z0
                  rw [← hW1]
                  obtain ⟨R1, hR1⟩ : ∃ R1, (fun x => if x = p then (R p).set q z0 else R x) = R1 := ⟨_, rfl⟩
                  rw [hR1] at htw1 hdn1 hdp
                  have hx1 : (R1 p).getD q 0 = z0 := by rw [← hR1]; show (if p = p then (R p).set q z0 else R p).getD q 0 = z0; rw [if_pos rfl, set_at _ _ _ _ (by rw [HT2.out.1.len p hpi]; exact hqm), if_pos rfl]
                  have HT3 := Lib.hid (And.intro htw1 (And.intro hdn1 (And.intro hb1 (And.intro hdp hx1))))
                  clear hW1 htw1 hdn1 hb1 hdp hR1 hx1 e1 e2 e3 e4 f4
                  rcases Nat.eq_zero_or_pos (p + q) with h0 | h0
                  · obtain rfl : p = 0 := by omega
                    obtain rfl : q = 0 := by omega
                    have HZW : Hid (z0 = wt X Y b (0 + 1) (0 + 1)) := by show _ = _; rw [← HZ0.out]; exact (wt_first X Y b HBN.out).symm
                    go_wp2
                    go_roundw
                    case rel => exact ⟨0 + 1, R1, _, rfl, by omega, by first | rfl | go_num, HT3.out.1, HT3.out.2.2.2.1 HZW.out, HT3.out.2.2.1⟩
                    case measure => simp [intOf]; omega
                  · have s0 : (0 : Int) < (p : Int) + (q : Int) := by omega
                    have s1 : 0 < p + q := h0
                    have s2 : decide ((0 : Int) < (p : Int) + (q : Int)) = true := by simpa using s0
                    have BK := Lib.hid (before_ok h i i m p q b R1 n1 n2 m1 m2 hpi hqm W1 HT3.out.1.tr)
                    obtain ⟨t1, t2, t3⟩ := atv_wt HT3.out.2.1 hpi hqm HBN.out h0
                    rw [t1, t2, t3] at BK
                    have hwt := wt_in X Y b p q HBN.out
                    rw [HZ0.out] at hwt
                    have hfin := wt_fin HS.out.1 HS.out.2 b0 (p + q) p q rfl HBN.out
                    obtain ⟨mz, hmz⟩ : ∃ z, mn3 (wt X Y b p q) (wt X Y b p (q + 1)) (wt X Y b (p + 1) q) = z := ⟨_, rfl⟩
                    rw [hmz] at BK hwt
                    have HWT := Lib.hid hwt
                    rw [hwt] at hfin
                    obtain ⟨fz0, fz1⟩ : 0 ≤ z0 + mz ∧ z0 + mz ≤ 256000000 := by omega
                    clear t1 t2 t3 hwt hfin hmz s2
                    go_wp2_with fail
                    go_at_call 65
                    refine BK.out.mono ?_
                    rintro e w6 ⟨P, Q, rfl, hpq, hp0, hp1, hq0, hq1, hb6⟩
                    have HRL : Hid (rr p < w6.heap.size) := Nat.lt_of_lt_of_le (HT3.out.1.bk p hpi).lt hb6.size
                    have AT : Hid (∀ W, TR W h i m R1 → _) := fun W hW => at_ok h i i m b P Q R1 n1 n2 m1 m2 (by omega) (by omega) (by omega) (by omega) W hW
                    rw [hpq] at AT
                    obtain ⟨W7, hW7⟩ : ∃ W7, W7 = w6.alloc (.cells #[.int .i64 P, .int .i64 Q] 75) := ⟨_, rfl⟩
                    have htw7 : TW W7 h i m rr R1 := by rw [hW7]; exact (HT3.out.1.bel hb6).bel (Bel.rf.al _)
                    have hbk7 : Bk W7 w6.heap.size 75 #[.int .i64 P, .int .i64 Q] := by rw [hW7]; exact Bk.nw _ _ _
                    have hb7 : Bel w W7 := by rw [hW7]; exact (HT3.out.2.2.1.tr hb6).al _
                    have HW7 := Lib.hid hW7
                    have x3 := htw7.at' p hpi
                    have x4 := bk_at (htw7.bk p hpi) q (by rw [htw7.len p hpi]; exact hqm)
                    rw [HT3.out.2.2.2.2] at x4
                    have y4 : W7.frozen? ⟨rr p, q, none⟩ = false := (htw7.bk p hpi).fr q
                    have x5 := hbk7.cell 0
                    have x6 := hbk7.cell 1
                    have HT7 := Lib.hid (And.intro htw7 hb7)
                    have wz : IntKind.i64.wrap (z0 + mz) = z0 + mz := IntWalk.i64_in _ (by omega)
                    clear hpq hp0 hp1 hq0 hq1 hb6 hW7 htw7 hbk7 hb7
                    go_wp2_with fail
                    all_goals try rw [← HW7.out]
                    have HX := Lib.hid (And.intro x3 (And.intro x4 (And.intro x5 x6)))
                    clear x3 x4 x5 x6 y4
                    obtain ⟨J3, HJ3⟩ : ∃ J3 : Array Bool → Act → World → Prop, Hid (∀ li a W, J3 li a W ↔ ∃ v : Nat → Value, a = { tmps := #[.slice (some ⟨g, 0, none⟩) i c, .int .i64 b, undef, undef, .slice none 0 0, .slice (some ⟨h, 0, none⟩) i i, u6, .int .i64 (p : Int), .int .i64 (q : Int), .pointer (some ⟨w6.heap.size, 0, none⟩), .slice (some ⟨g, 0, none⟩) i c, .int .i64 (i : Int), .slice (some ⟨h, 0, none⟩) i i, .slice (some ⟨g, 0, none⟩) i c, .int .i64 (i : Int), .int .i64 (i : Int), .bool false, u17, u18, u19, u20, u21, u22, u23, u24, u25, u26, u27, .slice (some ⟨g, 0, none⟩) i c, .int .i64 (i : Int), .int .i64 (p : Int), .bool true, .int .i64 (p : Int), .slice (some ⟨g, 0, none⟩) i c, .int .i64 (p : Int), .pointer (some ⟨g, p, none⟩), .slice (some ⟨r0, 0, none⟩) m cc0, .int .i64 (m : Int), .int .i64 (q : Int), .bool true, .int .i64 (q : Int), .slice (some ⟨g, 0, none⟩) i c, .int .i64 (i : Int), .slice (some ⟨g, 0, none⟩) i c, .int .i64 (p : Int), .pointer (some ⟨g, p, none⟩), v 21, .int .i64 (m : Int), .int .i64 b, .int .i64 (p : Int), .int .i64 (q : Int), .bool false, .slice (some ⟨h, 0, none⟩) i i, .int .i64 (p : Int), .pointer (some ⟨h, p, none⟩), .slice (some ⟨rr p, 0, none⟩) m m, .int .i64 (q : Int), .slice (some ⟨g, 0, none⟩) i c, .int .i64 (p : Int), .pointer (some ⟨g, p, none⟩), v 22, .int .i64 (q : Int), v 23, .int .i64 z0, .pointer (some ⟨rr p, q, none⟩), .int .i64 (p : Int), .int .i64 (q : Int), .int .i64 ((p : Int) + (q : Int)), .bool true, .slice (some ⟨h, 0, none⟩) i i, .int .i64 b, .int .i64 (p : Int), .int .i64 (q : Int), .agg #[.int .i64 P, .int .i64 Q], v 0, v 1, v 2, v 3, v 4, v 5, v 6, v 7, v 8, v 9, v 10, v 11, v 12, v 13, v 14, v 15, u90, u91, undef], defers := [] } ∧ (li.getD 0 false = true → v 0 = .slice (some ⟨h, 0, none⟩) i i) ∧ (li.getD 1 false = true → v 1 = .int .i64 (p : Int)) ∧ (li.getD 2 false = true → v 2 = .pointer (some ⟨h, p, none⟩)) ∧ (li.getD 3 false = true → v 3 = .slice (some ⟨rr p, 0, none⟩) m m) ∧ (li.getD 4 false = true → v 4 = .int .i64 (q : Int)) ∧ (li.getD 5 false = true → v 5 = .pointer (some ⟨rr p, q, none⟩)) ∧ (li.getD 6 false = true → v 6 = .int .i64 z0) ∧ (li.getD 7 false = true → v 7 = .slice (some ⟨h, 0, none⟩) i i) ∧ (li.getD 8 false = true → v 8 = .int .i64 b) ∧ (li.getD 9 false = true → v 9 = .pointer (some ⟨w6.heap.size, 0, none⟩)) ∧ (li.getD 10 false = true → v 10 = .int .i64 P) ∧ (li.getD 11 false = true → v 11 = .pointer (some ⟨w6.heap.size, 1, none⟩)) ∧ (li.getD 12 false = true → v 12 = .int .i64 Q) ∧ (li.getD 13 false = true → v 13 = .int .i64 mz) ∧ (li.getD 14 false = true → v 14 = .int .i64 (z0 + mz)) ∧ (li.getD 15 false = true → v 15 = .pointer (some ⟨rr p, q, none⟩)) ∧ (li.getD 16 false = false → Bel W7 W) ∧ (li.getD 16 false = true → ∃ W1, Bel W7 W1 ∧ W = W1.setCell ⟨rr p, q, none⟩ (.int .i64 (z0 + mz)))) := ⟨_, fun _ _ _ => Iff.rfl⟩
                    refine Ri9.wp_region_inv2 (by kernel_rfl) (by intro i o ho; (rcases i with _ | _ | _ | _ | _ | _ | _ | _ | _ | _ | _ | _ | _ | _ | _ | _ | _ | i) <;> first | (cases ho; decide) | (exact absurd ho (by simp))) J3 ?_ ?_ ?_
                    · refine (HJ3.out _ _ _).2 ⟨fun k => (#[u74, u75, u76, u77, u78, u79, u80, u81, u82, u83, u84, u85, u86, u87, u88, u89, undef, undef, undef, undef, undef, (.slice (some ⟨_, 0, none⟩) m _), (.slice (some ⟨_, 0, none⟩) m _), (.pointer (some ⟨_, q, none⟩))] : Array Value).getD k undef, by rfl, (fun h => by rw [rep_get] at h; cases h), (fun h => by rw [rep_get] at h; cases h), (fun h => by rw [rep_get] at h; cases h), (fun h => by rw [rep_get] at h; cases h), (fun h => by rw [rep_get] at h; cases h), (fun h => by rw [rep_get] at h; cases h), (fun h => by rw [rep_get] at h; cases h), (fun h => by rw [rep_get] at h; cases h), (fun h => by rw [rep_get] at h; cases h), (fun h => by rw [rep_get] at h; cases h), (fun h => by rw [rep_get] at h; cases h), (fun h => by rw [rep_get] at h; cases h), (fun h => by rw [rep_get] at h; cases h), (fun h => by rw [rep_get] at h; cases h), (fun h => by rw [rep_get] at h; cases h), (fun h => by rw [rep_get] at h; cases h), fun _ => Bel.rf.drw, (fun h => by rw [rep_get] at h; cases h)⟩
                    · intro k o ho li a W hcl hJ3 haft hun
                      obtain ⟨v, rfl, f0, f1, f2, f3, f4, f5, f6, f7, f8, f9, f10, f11, f12, f13, f14, f15, hB, h16⟩ := (HJ3.out _ _ _).1 hJ3
                      have HC := Lib.hid hcl
                      have HAF := Lib.hid haft
                      have HBW := Lib.hid hB
                      have H16 := Lib.hid h16
                      clear hcl hJ3 haft hB h16
                      rcases k with _ | _ | _ | _ | _ | _ | _ | _ | _ | _ | _ | _ | _ | _ | _ | _ | _ | k
                      · cases ho
                        have HUN := Lib.hid hun
                        have HFF := Lib.hid (And.intro f0 ( And.intro f1 ( And.intro f2 ( And.intro f3 ( And.intro f4 ( And.intro f5 ( And.intro f6 ( And.intro f7 ( And.intro f8 ( And.intro f9 ( And.intro f10 ( And.intro f11 ( And.intro f12 ( And.intro f13 ( And.intro f14 (f15))))))))))))))))
                        clear f0 f1 f2 f3 f4 f5 f6 f7 f8 f9 f10 f11 f12 f13 f14 f15 hun
                        refine Ri9.wpOp_list rfl ?_
                        go_wp2
                        refine (HJ3.out _ _ _).2 ⟨fun k => if k = 0 then .slice (some ⟨h, 0, none⟩) i i else v k, by simp [], (fun _ => rfl), (fun h => HFF.out.2.1 (by rw [getD_set_ne _ (by decide)] at h; exact h)), (fun h => HFF.out.2.2.1 (by rw [getD_set_ne _ (by decide)] at h; exact h)), (fun h => HFF.out.2.2.2.1 (by rw [getD_set_ne _ (by decide)] at h; exact h)), (fun h => HFF.out.2.2.2.2.1 (by rw [getD_set_ne _ (by decide)] at h; exact h)), (fun h => HFF.out.2.2.2.2.2.1 (by rw [getD_set_ne _ (by decide)] at h; exact h)), (fun h => HFF.out.2.2.2.2.2.2.1 (by rw [getD_set_ne _ (by decide)] at h; exact h)), (fun h => HFF.out.2.2.2.2.2.2.2.1 (by rw [getD_set_ne _ (by decide)] at h; exact h)), (fun h => HFF.out.2.2.2.2.2.2.2.2.1 (by rw [getD_set_ne _ (by decide)] at h; exact h)), (fun h => HFF.out.2.2.2.2.2.2.2.2.2.1 (by rw [getD_set_ne _ (by decide)] at h; exact h)), (fun h => HFF.out.2.2.2.2.2.2.2.2.2.2.1 (by rw [getD_set_ne _ (by decide)] at h; exact h)), (fun h => HFF.out.2.2.2.2.2.2.2.2.2.2.2.1 (by rw [getD_set_ne _ (by decide)] at h; exact h)), (fun h => HFF.out.2.2.2.2.2.2.2.2.2.2.2.2.1 (by rw [getD_set_ne _ (by decide)] at h; exact h)), (fun h => HFF.out.2.2.2.2.2.2.2.2.2.2.2.2.2.1 (by rw [getD_set_ne _ (by decide)] at h; exact h)), (fun h => HFF.out.2.2.2.2.2.2.2.2.2.2.2.2.2.2.1 (by rw [getD_set_ne _ (by decide)] at h; exact h)), (fun h => HFF.out.2.2.2.2.2.2.2.2.2.2.2.2.2.2.2 (by rw [getD_set_ne _ (by decide)] at h; exact h)), (fun h => HBW.out (by rw [getD_set_ne _ (by decide)] at h; exact h)), (fun h => H16.out (by rw [getD_set_ne _ (by decide)] at h; exact h))⟩
                      · cases ho
                        have HUN := Lib.hid hun
                        have HFF := Lib.hid (And.intro f0 ( And.intro f1 ( And.intro f2 ( And.intro f3 ( And.intro f4 ( And.intro f5 ( And.intro f6 ( And.intro f7 ( And.intro f8 ( And.intro f9 ( And.intro f10 ( And.intro f11 ( And.intro f12 ( And.intro f13 ( And.intro f14 (f15))))))))))))))))
                        clear f0 f1 f2 f3 f4 f5 f6 f7 f8 f9 f10 f11 f12 f13 f14 f15 hun
                        refine Ri9.wpOp_list rfl ?_
                        go_wp2
                        refine (HJ3.out _ _ _).2 ⟨fun k => if k = 1 then .int .i64 (p : Int) else v k, by simp [], (fun h => HFF.out.1 (by rw [getD_set_ne _ (by decide)] at h; exact h)), (fun _ => rfl), (fun h => HFF.out.2.2.1 (by rw [getD_set_ne _ (by decide)] at h; exact h)), (fun h => HFF.out.2.2.2.1 (by rw [getD_set_ne _ (by decide)] at h; exact h)), (fun h => HFF.out.2.2.2.2.1 (by rw [getD_set_ne _ (by decide)] at h; exact h)), (fun h => HFF.out.2.2.2.2.2.1 (by rw [getD_set_ne _ (by decide)] at h; exact h)), (fun h => HFF.out.2.2.2.2.2.2.1 (by rw [getD_set_ne _ (by decide)] at h; exact h)), (fun h => HFF.out.2.2.2.2.2.2.2.1 (by rw [getD_set_ne _ (by decide)] at h; exact h)), (fun h => HFF.out.2.2.2.2.2.2.2.2.1 (by rw [getD_set_ne _ (by decide)] at h; exact h)), (fun h => HFF.out.2.2.2.2.2.2.2.2.2.1 (by rw [getD_set_ne _ (by decide)] at h; exact h)), (fun h => HFF.out.2.2.2.2.2.2.2.2.2.2.1 (by rw [getD_set_ne _ (by decide)] at h; exact h)), (fun h => HFF.out.2.2.2.2.2.2.2.2.2.2.2.1 (by rw [getD_set_ne _ (by decide)] at h; exact h)), (fun h => HFF.out.2.2.2.2.2.2.2.2.2.2.2.2.1 (by rw [getD_set_ne _ (by decide)] at h; exact h)), (fun h => HFF.out.2.2.2.2.2.2.2.2.2.2.2.2.2.1 (by rw [getD_set_ne _ (by decide)] at h; exact h)), (fun h => HFF.out.2.2.2.2.2.2.2.2.2.2.2.2.2.2.1 (by rw [getD_set_ne _ (by decide)] at h; exact h)), (fun h => HFF.out.2.2.2.2.2.2.2.2.2.2.2.2.2.2.2 (by rw [getD_set_ne _ (by decide)] at h; exact h)), (fun h => HBW.out (by rw [getD_set_ne _ (by decide)] at h; exact h)), (fun h => H16.out (by rw [getD_set_ne _ (by decide)] at h; exact h))⟩
                      · cases ho
                        have e0 := f0 (HAF.out ⟨0, .data⟩ (by simp) rfl)
                        have e1 := f1 (HAF.out ⟨1, .data⟩ (by simp) rfl)
                        have HUN := Lib.hid hun
                        have HFF := Lib.hid (And.intro f0 ( And.intro f1 ( And.intro f2 ( And.intro f3 ( And.intro f4 ( And.intro f5 ( And.intro f6 ( And.intro f7 ( And.intro f8 ( And.intro f9 ( And.intro f10 ( And.intro f11 ( And.intro f12 ( And.intro f13 ( And.intro f14 (f15))))))))))))))))
                        clear f0 f1 f2 f3 f4 f5 f6 f7 f8 f9 f10 f11 f12 f13 f14 f15 hun
                        refine Ri9.wpOp_list rfl ?_
                        go_wp2
                        refine (HJ3.out _ _ _).2 ⟨fun k => if k = 2 then .pointer (some ⟨h, p, none⟩) else v k, by simp [e0, e1], (fun h => HFF.out.1 (by rw [getD_set_ne _ (by decide)] at h; exact h)), (fun h => HFF.out.2.1 (by rw [getD_set_ne _ (by decide)] at h; exact h)), (fun _ => rfl), (fun h => HFF.out.2.2.2.1 (by rw [getD_set_ne _ (by decide)] at h; exact h)), (fun h => HFF.out.2.2.2.2.1 (by rw [getD_set_ne _ (by decide)] at h; exact h)), (fun h => HFF.out.2.2.2.2.2.1 (by rw [getD_set_ne _ (by decide)] at h; exact h)), (fun h => HFF.out.2.2.2.2.2.2.1 (by rw [getD_set_ne _ (by decide)] at h; exact h)), (fun h => HFF.out.2.2.2.2.2.2.2.1 (by rw [getD_set_ne _ (by decide)] at h; exact h)), (fun h => HFF.out.2.2.2.2.2.2.2.2.1 (by rw [getD_set_ne _ (by decide)] at h; exact h)), (fun h => HFF.out.2.2.2.2.2.2.2.2.2.1 (by rw [getD_set_ne _ (by decide)] at h; exact h)), (fun h => HFF.out.2.2.2.2.2.2.2.2.2.2.1 (by rw [getD_set_ne _ (by decide)] at h; exact h)), (fun h => HFF.out.2.2.2.2.2.2.2.2.2.2.2.1 (by rw [getD_set_ne _ (by decide)] at h; exact h)), (fun h => HFF.out.2.2.2.2.2.2.2.2.2.2.2.2.1 (by rw [getD_set_ne _ (by decide)] at h; exact h)), (fun h => HFF.out.2.2.2.2.2.2.2.2.2.2.2.2.2.1 (by rw [getD_set_ne _ (by decide)] at h; exact h)), (fun h => HFF.out.2.2.2.2.2.2.2.2.2.2.2.2.2.2.1 (by rw [getD_set_ne _ (by decide)] at h; exact h)), (fun h => HFF.out.2.2.2.2.2.2.2.2.2.2.2.2.2.2.2 (by rw [getD_set_ne _ (by decide)] at h; exact h)), (fun h => HBW.out (by rw [getD_set_ne _ (by decide)] at h; exact h)), (fun h => H16.out (by rw [getD_set_ne _ (by decide)] at h; exact h))⟩
                      · cases ho
                        have e2 := f2 (HAF.out ⟨2, .data⟩ (by simp) rfl)
                        have HUN := Lib.hid hun
                        have n16 : li.getD 16 false = false := by
                          cases hx : li.getD 16 false
                          · rfl
                          · have a15 := HC.out 16 _ rfl hx ⟨15, .data⟩ (by simp) rfl
                            have a3 := HC.out 15 _ rfl a15 ⟨3, .data⟩ (by simp) rfl
                            rw [get_def a3] at hun; cases hun
                        have hb16 := HBW.out n16
                        have cc := hb16.kp HX.out.1
                        have HB16 := Lib.hid hb16
                        clear hb16
                        have HFF := Lib.hid (And.intro f0 ( And.intro f1 ( And.intro f2 ( And.intro f3 ( And.intro f4 ( And.intro f5 ( And.intro f6 ( And.intro f7 ( And.intro f8 ( And.intro f9 ( And.intro f10 ( And.intro f11 ( And.intro f12 ( And.intro f13 ( And.intro f14 (f15))))))))))))))))
                        clear f0 f1 f2 f3 f4 f5 f6 f7 f8 f9 f10 f11 f12 f13 f14 f15 hun
                        refine Ri9.wpOp_list rfl ?_
                        go_wp2
                        refine (HJ3.out _ _ _).2 ⟨fun k => if k = 3 then .slice (some ⟨rr p, 0, none⟩) m m else v k, by simp [e2], (fun h => HFF.out.1 (by rw [getD_set_ne _ (by decide)] at h; exact h)), (fun h => HFF.out.2.1 (by rw [getD_set_ne _ (by decide)] at h; exact h)), (fun h => HFF.out.2.2.1 (by rw [getD_set_ne _ (by decide)] at h; exact h)), (fun _ => rfl), (fun h => HFF.out.2.2.2.2.1 (by rw [getD_set_ne _ (by decide)] at h; exact h)), (fun h => HFF.out.2.2.2.2.2.1 (by rw [getD_set_ne _ (by decide)] at h; exact h)), (fun h => HFF.out.2.2.2.2.2.2.1 (by rw [getD_set_ne _ (by decide)] at h; exact h)), (fun h => HFF.out.2.2.2.2.2.2.2.1 (by rw [getD_set_ne _ (by decide)] at h; exact h)), (fun h => HFF.out.2.2.2.2.2.2.2.2.1 (by rw [getD_set_ne _ (by decide)] at h; exact h)), (fun h => HFF.out.2.2.2.2.2.2.2.2.2.1 (by rw [getD_set_ne _ (by decide)] at h; exact h)), (fun h => HFF.out.2.2.2.2.2.2.2.2.2.2.1 (by rw [getD_set_ne _ (by decide)] at h; exact h)), (fun h => HFF.out.2.2.2.2.2.2.2.2.2.2.2.1 (by rw [getD_set_ne _ (by decide)] at h; exact h)), (fun h => HFF.out.2.2.2.2.2.2.2.2.2.2.2.2.1 (by rw [getD_set_ne _ (by decide)] at h; exact h)), (fun h => HFF.out.2.2.2.2.2.2.2.2.2.2.2.2.2.1 (by rw [getD_set_ne _ (by decide)] at h; exact h)), (fun h => HFF.out.2.2.2.2.2.2.2.2.2.2.2.2.2.2.1 (by rw [getD_set_ne _ (by decide)] at h; exact h)), (fun h => HFF.out.2.2.2.2.2.2.2.2.2.2.2.2.2.2.2 (by rw [getD_set_ne _ (by decide)] at h; exact h)), (fun h => HBW.out (by rw [getD_set_ne _ (by decide)] at h; exact h)), (fun h => H16.out (by rw [getD_set_ne _ (by decide)] at h; exact h))⟩
                      · cases ho
                        have HUN := Lib.hid hun
                        have HFF := Lib.hid (And.intro f0 ( And.intro f1 ( And.intro f2 ( And.intro f3 ( And.intro f4 ( And.intro f5 ( And.intro f6 ( And.intro f7 ( And.intro f8 ( And.intro f9 ( And.intro f10 ( And.intro f11 ( And.intro f12 ( And.intro f13 ( And.intro f14 (f15))))))))))))))))
                        clear f0 f1 f2 f3 f4 f5 f6 f7 f8 f9 f10 f11 f12 f13 f14 f15 hun
                        refine Ri9.wpOp_list rfl ?_
                        go_wp2
                        refine (HJ3.out _ _ _).2 ⟨fun k => if k = 4 then .int .i64 (q : Int) else v k, by simp [], (fun h => HFF.out.1 (by rw [getD_set_ne _ (by decide)] at h; exact h)), (fun h => HFF.out.2.1 (by rw [getD_set_ne _ (by decide)] at h; exact h)), (fun h => HFF.out.2.2.1 (by rw [getD_set_ne _ (by decide)] at h; exact h)), (fun h => HFF.out.2.2.2.1 (by rw [getD_set_ne _ (by decide)] at h; exact h)), (fun _ => rfl), (fun h => HFF.out.2.2.2.2.2.1 (by rw [getD_set_ne _ (by decide)] at h; exact h)), (fun h => HFF.out.2.2.2.2.2.2.1 (by rw [getD_set_ne _ (by decide)] at h; exact h)), (fun h => HFF.out.2.2.2.2.2.2.2.1 (by rw [getD_set_ne _ (by decide)] at h; exact h)), (fun h => HFF.out.2.2.2.2.2.2.2.2.1 (by rw [getD_set_ne _ (by decide)] at h; exact h)), (fun h => HFF.out.2.2.2.2.2.2.2.2.2.1 (by rw [getD_set_ne _ (by decide)] at h; exact h)), (fun h => HFF.out.2.2.2.2.2.2.2.2.2.2.1 (by rw [getD_set_ne _ (by decide)] at h; exact h)), (fun h => HFF.out.2.2.2.2.2.2.2.2.2.2.2.1 (by rw [getD_set_ne _ (by decide)] at h; exact h)), (fun h => HFF.out.2.2.2.2.2.2.2.2.2.2.2.2.1 (by rw [getD_set_ne _ (by decide)] at h; exact h)), (fun h => HFF.out.2.2.2.2.2.2.2.2.2.2.2.2.2.1 (by rw [getD_set_ne _ (by decide)] at h; exact h)), (fun h => HFF.out.2.2.2.2.2.2.2.2.2.2.2.2.2.2.1 (by rw [getD_set_ne _ (by decide)] at h; exact h)), (fun h => HFF.out.2.2.2.2.2.2.2.2.2.2.2.2.2.2.2 (by rw [getD_set_ne _ (by decide)] at h; exact h)), (fun h => HBW.out (by rw [getD_set_ne _ (by decide)] at h; exact h)), (fun h => H16.out (by rw [getD_set_ne _ (by decide)] at h; exact h))⟩
                      · cases ho
                        have e3 := f3 (HAF.out ⟨3, .data⟩ (by simp) rfl)
                        have e4 := f4 (HAF.out ⟨4, .data⟩ (by simp) rfl)
                        have HUN := Lib.hid hun
                        have HFF := Lib.hid (And.intro f0 ( And.intro f1 ( And.intro f2 ( And.intro f3 ( And.intro f4 ( And.intro f5 ( And.intro f6 ( And.intro f7 ( And.intro f8 ( And.intro f9 ( And.intro f10 ( And.intro f11 ( And.intro f12 ( And.intro f13 ( And.intro f14 (f15))))))))))))))))
                        clear f0 f1 f2 f3 f4 f5 f6 f7 f8 f9 f10 f11 f12 f13 f14 f15 hun
                        refine Ri9.wpOp_list rfl ?_
                        go_wp2
                        refine (HJ3.out _ _ _).2 ⟨fun k => if k = 5 then .pointer (some ⟨rr p, q, none⟩) else v k, by simp [e3, e4], (fun h => HFF.out.1 (by rw [getD_set_ne _ (by decide)] at h; exact h)), (fun h => HFF.out.2.1 (by rw [getD_set_ne _ (by decide)] at h; exact h)), (fun h => HFF.out.2.2.1 (by rw [getD_set_ne _ (by decide)] at h; exact h)), (fun h => HFF.out.2.2.2.1 (by rw [getD_set_ne _ (by decide)] at h; exact h)), (fun h => HFF.out.2.2.2.2.1 (by rw [getD_set_ne _ (by decide)] at h; exact h)), (fun _ => rfl), (fun h => HFF.out.2.2.2.2.2.2.1 (by rw [getD_set_ne _ (by decide)] at h; exact h)), (fun h => HFF.out.2.2.2.2.2.2.2.1 (by rw [getD_set_ne _ (by decide)] at h; exact h)), (fun h => HFF.out.2.2.2.2.2.2.2.2.1 (by rw [getD_set_ne _ (by decide)] at h; exact h)), (fun h => HFF.out.2.2.2.2.2.2.2.2.2.1 (by rw [getD_set_ne _ (by decide)] at h; exact h)), (fun h => HFF.out.2.2.2.2.2.2.2.2.2.2.1 (by rw [getD_set_ne _ (by decide)] at h; exact h)), (fun h => HFF.out.2.2.2.2.2.2.2.2.2.2.2.1 (by rw [getD_set_ne _ (by decide)] at h; exact h)), (fun h => HFF.out.2.2.2.2.2.2.2.2.2.2.2.2.1 (by rw [getD_set_ne _ (by decide)] at h; exact h)), (fun h => HFF.out.2.2.2.2.2.2.2.2.2.2.2.2.2.1 (by rw [getD_set_ne _ (by decide)] at h; exact h)), (fun h => HFF.out.2.2.2.2.2.2.2.2.2.2.2.2.2.2.1 (by rw [getD_set_ne _ (by decide)] at h; exact h)), (fun h => HFF.out.2.2.2.2.2.2.2.2.2.2.2.2.2.2.2 (by rw [getD_set_ne _ (by decide)] at h; exact h)), (fun h => HBW.out (by rw [getD_set_ne _ (by decide)] at h; exact h)), (fun h => H16.out (by rw [getD_set_ne _ (by decide)] at h; exact h))⟩
                      · cases ho
                        have e5 := f5 (HAF.out ⟨5, .data⟩ (by simp) rfl)
                        have HUN := Lib.hid hun
                        have n16 : li.getD 16 false = false := by
                          cases hx : li.getD 16 false
                          · rfl
                          · have a14 := HC.out 16 _ rfl hx ⟨14, .data⟩ (by simp) rfl
                            have a6 := HC.out 14 _ rfl a14 ⟨6, .data⟩ (by simp) rfl
                            rw [get_def a6] at hun; cases hun
                        have hb16 := HBW.out n16
                        have cc := hb16.kp HX.out.2.1
                        have HB16 := Lib.hid hb16
                        clear hb16
                        have HFF := Lib.hid (And.intro f0 ( And.intro f1 ( And.intro f2 ( And.intro f3 ( And.intro f4 ( And.intro f5 ( And.intro f6 ( And.intro f7 ( And.intro f8 ( And.intro f9 ( And.intro f10 ( And.intro f11 ( And.intro f12 ( And.intro f13 ( And.intro f14 (f15))))))))))))))))
                        clear f0 f1 f2 f3 f4 f5 f6 f7 f8 f9 f10 f11 f12 f13 f14 f15 hun
                        refine Ri9.wpOp_list rfl ?_
                        go_wp2
                        refine (HJ3.out _ _ _).2 ⟨fun k => if k = 6 then .int .i64 z0 else v k, by simp [e5], (fun h => HFF.out.1 (by rw [getD_set_ne _ (by decide)] at h; exact h)), (fun h => HFF.out.2.1 (by rw [getD_set_ne _ (by decide)] at h; exact h)), (fun h => HFF.out.2.2.1 (by rw [getD_set_ne _ (by decide)] at h; exact h)), (fun h => HFF.out.2.2.2.1 (by rw [getD_set_ne _ (by decide)] at h; exact h)), (fun h => HFF.out.2.2.2.2.1 (by rw [getD_set_ne _ (by decide)] at h; exact h)), (fun h => HFF.out.2.2.2.2.2.1 (by rw [getD_set_ne _ (by decide)] at h; exact h)), (fun _ => rfl), (fun h => HFF.out.2.2.2.2.2.2.2.1 (by rw [getD_set_ne _ (by decide)] at h; exact h)), (fun h => HFF.out.2.2.2.2.2.2.2.2.1 (by rw [getD_set_ne _ (by decide)] at h; exact h)), (fun h => HFF.out.2.2.2.2.2.2.2.2.2.1 (by rw [getD_set_ne _ (by decide)] at h; exact h)), (fun h => HFF.out.2.2.2.2.2.2.2.2.2.2.1 (by rw [getD_set_ne _ (by decide)] at h; exact h)), (fun h => HFF.out.2.2.2.2.2.2.2.2.2.2.2.1 (by rw [getD_set_ne _ (by decide)] at h; exact h)), (fun h => HFF.out.2.2.2.2.2.2.2.2.2.2.2.2.1 (by rw [getD_set_ne _ (by decide)] at h; exact h)), (fun h => HFF.out.2.2.2.2.2.2.2.2.2.2.2.2.2.1 (by rw [getD_set_ne _ (by decide)] at h; exact h)), (fun h => HFF.out.2.2.2.2.2.2.2.2.2.2.2.2.2.2.1 (by rw [getD_set_ne _ (by decide)] at h; exact h)), (fun h => HFF.out.2.2.2.2.2.2.2.2.2.2.2.2.2.2.2 (by rw [getD_set_ne _ (by decide)] at h; exact h)), (fun h => HBW.out (by rw [getD_set_ne _ (by decide)] at h; exact h)), (fun h => H16.out (by rw [getD_set_ne _ (by decide)] at h; exact h))⟩
                      · cases ho
                        have HUN := Lib.hid hun
                        have HFF := Lib.hid (And.intro f0 ( And.intro f1 ( And.intro f2 ( And.intro f3 ( And.intro f4 ( And.intro f5 ( And.intro f6 ( And.intro f7 ( And.intro f8 ( And.intro f9 ( And.intro f10 ( And.intro f11 ( And.intro f12 ( And.intro f13 ( And.intro f14 (f15))))))))))))))))
                        clear f0 f1 f2 f3 f4 f5 f6 f7 f8 f9 f10 f11 f12 f13 f14 f15 hun
                        refine Ri9.wpOp_list rfl ?_
                        go_wp2
                        refine (HJ3.out _ _ _).2 ⟨fun k => if k = 7 then .slice (some ⟨h, 0, none⟩) i i else v k, by simp [], (fun h => HFF.out.1 (by rw [getD_set_ne _ (by decide)] at h; exact h)), (fun h => HFF.out.2.1 (by rw [getD_set_ne _ (by decide)] at h; exact h)), (fun h => HFF.out.2.2.1 (by rw [getD_set_ne _ (by decide)] at h; exact h)), (fun h => HFF.out.2.2.2.1 (by rw [getD_set_ne _ (by decide)] at h; exact h)), (fun h => HFF.out.2.2.2.2.1 (by rw [getD_set_ne _ (by decide)] at h; exact h)), (fun h => HFF.out.2.2.2.2.2.1 (by rw [getD_set_ne _ (by decide)] at h; exact h)), (fun h => HFF.out.2.2.2.2.2.2.1 (by rw [getD_set_ne _ (by decide)] at h; exact h)), (fun _ => rfl), (fun h => HFF.out.2.2.2.2.2.2.2.2.1 (by rw [getD_set_ne _ (by decide)] at h; exact h)), (fun h => HFF.out.2.2.2.2.2.2.2.2.2.1 (by rw [getD_set_ne _ (by decide)] at h; exact h)), (fun h => HFF.out.2.2.2.2.2.2.2.2.2.2.1 (by rw [getD_set_ne _ (by decide)] at h; exact h)), (fun h => HFF.out.2.2.2.2.2.2.2.2.2.2.2.1 (by rw [getD_set_ne _ (by decide)] at h; exact h)), (fun h => HFF.out.2.2.2.2.2.2.2.2.2.2.2.2.1 (by rw [getD_set_ne _ (by decide)] at h; exact h)), (fun h => HFF.out.2.2.2.2.2.2.2.2.2.2.2.2.2.1 (by rw [getD_set_ne _ (by decide)] at h; exact h)), (fun h => HFF.out.2.2.2.2.2.2.2.2.2.2.2.2.2.2.1 (by rw [getD_set_ne _ (by decide)] at h; exact h)), (fun h => HFF.out.2.2.2.2.2.2.2.2.2.2.2.2.2.2.2 (by rw [getD_set_ne _ (by decide)] at h; exact h)), (fun h => HBW.out (by rw [getD_set_ne _ (by decide)] at h; exact h)), (fun h => H16.out (by rw [getD_set_ne _ (by decide)] at h; exact h))⟩
                      · cases ho
                        have HUN := Lib.hid hun
                        have HFF := Lib.hid (And.intro f0 ( And.intro f1 ( And.intro f2 ( And.intro f3 ( And.intro f4 ( And.intro f5 ( And.intro f6 ( And.intro f7 ( And.intro f8 ( And.intro f9 ( And.intro f10 ( And.intro f11 ( And.intro f12 ( And.intro f13 ( And.intro f14 (f15))))))))))))))))
                        clear f0 f1 f2 f3 f4 f5 f6 f7 f8 f9 f10 f11 f12 f13 f14 f15 hun
                        refine Ri9.wpOp_list rfl ?_
                        go_wp2
                        refine (HJ3.out _ _ _).2 ⟨fun k => if k = 8 then .int .i64 b else v k, by simp [], (fun h => HFF.out.1 (by rw [getD_set_ne _ (by decide)] at h; exact h)), (fun h => HFF.out.2.1 (by rw [getD_set_ne _ (by decide)] at h; exact h)), (fun h => HFF.out.2.2.1 (by rw [getD_set_ne _ (by decide)] at h; exact h)), (fun h => HFF.out.2.2.2.1 (by rw [getD_set_ne _ (by decide)] at h; exact h)), (fun h => HFF.out.2.2.2.2.1 (by rw [getD_set_ne _ (by decide)] at h; exact h)), (fun h => HFF.out.2.2.2.2.2.1 (by rw [getD_set_ne _ (by decide)] at h; exact h)), (fun h => HFF.out.2.2.2.2.2.2.1 (by rw [getD_set_ne _ (by decide)] at h; exact h)), (fun h => HFF.out.2.2.2.2.2.2.2.1 (by rw [getD_set_ne _ (by decide)] at h; exact h)), (fun _ => rfl), (fun h => HFF.out.2.2.2.2.2.2.2.2.2.1 (by rw [getD_set_ne _ (by decide)] at h; exact h)), (fun h => HFF.out.2.2.2.2.2.2.2.2.2.2.1 (by rw [getD_set_ne _ (by decide)] at h; exact h)), (fun h => HFF.out.2.2.2.2.2.2.2.2.2.2.2.1 (by rw [getD_set_ne _ (by decide)] at h; exact h)), (fun h => HFF.out.2.2.2.2.2.2.2.2.2.2.2.2.1 (by rw [getD_set_ne _ (by decide)] at h; exact h)), (fun h => HFF.out.2.2.2.2.2.2.2.2.2.2.2.2.2.1 (by rw [getD_set_ne _ (by decide)] at h; exact h)), (fun h => HFF.out.2.2.2.2.2.2.2.2.2.2.2.2.2.2.1 (by rw [getD_set_ne _ (by decide)] at h; exact h)), (fun h => HFF.out.2.2.2.2.2.2.2.2.2.2.2.2.2.2.2 (by rw [getD_set_ne _ (by decide)] at h; exact h)), (fun h => HBW.out (by rw [getD_set_ne _ (by decide)] at h; exact h)), (fun h => H16.out (by rw [getD_set_ne _ (by decide)] at h; exact h))⟩
                      · cases ho
                        have HUN := Lib.hid hun
                        have HFF := Lib.hid (And.intro f0 ( And.intro f1 ( And.intro f2 ( And.intro f3 ( And.intro f4 ( And.intro f5 ( And.intro f6 ( And.intro f7 ( And.intro f8 ( And.intro f9 ( And.intro f10 ( And.intro f11 ( And.intro f12 ( And.intro f13 ( And.intro f14 (f15))))))))))))))))
                        clear f0 f1 f2 f3 f4 f5 f6 f7 f8 f9 f10 f11 f12 f13 f14 f15 hun
                        refine Ri9.wpOp_list rfl ?_
                        go_wp2
                        refine (HJ3.out _ _ _).2 ⟨fun k => if k = 9 then .pointer (some ⟨w6.heap.size, 0, none⟩) else v k, by simp [], (fun h => HFF.out.1 (by rw [getD_set_ne _ (by decide)] at h; exact h)), (fun h => HFF.out.2.1 (by rw [getD_set_ne _ (by decide)] at h; exact h)), (fun h => HFF.out.2.2.1 (by rw [getD_set_ne _ (by decide)] at h; exact h)), (fun h => HFF.out.2.2.2.1 (by rw [getD_set_ne _ (by decide)] at h; exact h)), (fun h => HFF.out.2.2.2.2.1 (by rw [getD_set_ne _ (by decide)] at h; exact h)), (fun h => HFF.out.2.2.2.2.2.1 (by rw [getD_set_ne _ (by decide)] at h; exact h)), (fun h => HFF.out.2.2.2.2.2.2.1 (by rw [getD_set_ne _ (by decide)] at h; exact h)), (fun h => HFF.out.2.2.2.2.2.2.2.1 (by rw [getD_set_ne _ (by decide)] at h; exact h)), (fun h => HFF.out.2.2.2.2.2.2.2.2.1 (by rw [getD_set_ne _ (by decide)] at h; exact h)), (fun _ => rfl), (fun h => HFF.out.2.2.2.2.2.2.2.2.2.2.1 (by rw [getD_set_ne _ (by decide)] at h; exact h)), (fun h => HFF.out.2.2.2.2.2.2.2.2.2.2.2.1 (by rw [getD_set_ne _ (by decide)] at h; exact h)), (fun h => HFF.out.2.2.2.2.2.2.2.2.2.2.2.2.1 (by rw [getD_set_ne _ (by decide)] at h; exact h)), (fun h => HFF.out.2.2.2.2.2.2.2.2.2.2.2.2.2.1 (by rw [getD_set_ne _ (by decide)] at h; exact h)), (fun h => HFF.out.2.2.2.2.2.2.2.2.2.2.2.2.2.2.1 (by rw [getD_set_ne _ (by decide)] at h; exact h)), (fun h => HFF.out.2.2.2.2.2.2.2.2.2.2.2.2.2.2.2 (by rw [getD_set_ne _ (by decide)] at h; exact h)), (fun h => HBW.out (by rw [getD_set_ne _ (by decide)] at h; exact h)), (fun h => H16.out (by rw [getD_set_ne _ (by decide)] at h; exact h))⟩
                      · cases ho
                        have e9 := f9 (HAF.out ⟨9, .data⟩ (by simp) rfl)
                        have HUN := Lib.hid hun
                        have n16 : li.getD 16 false = false := by
                          cases hx : li.getD 16 false
                          · rfl
                          · have a14 := HC.out 16 _ rfl hx ⟨14, .data⟩ (by simp) rfl
                            have a13 := HC.out 14 _ rfl a14 ⟨13, .data⟩ (by simp) rfl
                            have a10 := HC.out 13 _ rfl a13 ⟨10, .data⟩ (by simp) rfl
                            rw [get_def a10] at hun; cases hun
                        have hb16 := HBW.out n16
                        have cc := hb16.kp HX.out.2.2.1
                        have HB16 := Lib.hid hb16
                        clear hb16
                        have HFF := Lib.hid (And.intro f0 ( And.intro f1 ( And.intro f2 ( And.intro f3 ( And.intro f4 ( And.intro f5 ( And.intro f6 ( And.intro f7 ( And.intro f8 ( And.intro f9 ( And.intro f10 ( And.intro f11 ( And.intro f12 ( And.intro f13 ( And.intro f14 (f15))))))))))))))))
                        clear f0 f1 f2 f3 f4 f5 f6 f7 f8 f9 f10 f11 f12 f13 f14 f15 hun
                        refine Ri9.wpOp_list rfl ?_
                        go_wp2
                        refine (HJ3.out _ _ _).2 ⟨fun k => if k = 10 then .int .i64 P else v k, by simp [e9], (fun h => HFF.out.1 (by rw [getD_set_ne _ (by decide)] at h; exact h)), (fun h => HFF.out.2.1 (by rw [getD_set_ne _ (by decide)] at h; exact h)), (fun h => HFF.out.2.2.1 (by rw [getD_set_ne _ (by decide)] at h; exact h)), (fun h => HFF.out.2.2.2.1 (by rw [getD_set_ne _ (by decide)] at h; exact h)), (fun h => HFF.out.2.2.2.2.1 (by rw [getD_set_ne _ (by decide)] at h; exact h)), (fun h => HFF.out.2.2.2.2.2.1 (by rw [getD_set_ne _ (by decide)] at h; exact h)), (fun h => HFF.out.2.2.2.2.2.2.1 (by rw [getD_set_ne _ (by decide)] at h; exact h)), (fun h => HFF.out.2.2.2.2.2.2.2.1 (by rw [getD_set_ne _ (by decide)] at h; exact h)), (fun h => HFF.out.2.2.2.2.2.2.2.2.1 (by rw [getD_set_ne _ (by decide)] at h; exact h)), (fun h => HFF.out.2.2.2.2.2.2.2.2.2.1 (by rw [getD_set_ne _ (by decide)] at h; exact h)), (fun _ => rfl), (fun h => HFF.out.2.2.2.2.2.2.2.2.2.2.2.1 (by rw [getD_set_ne _ (by decide)] at h; exact h)), (fun h => HFF.out.2.2.2.2.2.2.2.2.2.2.2.2.1 (by rw [getD_set_ne _ (by decide)] at h; exact h)), (fun h => HFF.out.2.2.2.2.2.2.2.2.2.2.2.2.2.1 (by rw [getD_set_ne _ (by decide)] at h; exact h)), (fun h => HFF.out.2.2.2.2.2.2.2.2.2.2.2.2.2.2.1 (by rw [getD_set_ne _ (by decide)] at h; exact h)), (fun h => HFF.out.2.2.2.2.2.2.2.2.2.2.2.2.2.2.2 (by rw [getD_set_ne _ (by decide)] at h; exact h)), (fun h => HBW.out (by rw [getD_set_ne _ (by decide)] at h; exact h)), (fun h => H16.out (by rw [getD_set_ne _ (by decide)] at h; exact h))⟩
                      · cases ho
                        have HUN := Lib.hid hun
                        have HFF := Lib.hid (And.intro f0 ( And.intro f1 ( And.intro f2 ( And.intro f3 ( And.intro f4 ( And.intro f5 ( And.intro f6 ( And.intro f7 ( And.intro f8 ( And.intro f9 ( And.intro f10 ( And.intro f11 ( And.intro f12 ( And.intro f13 ( And.intro f14 (f15))))))))))))))))
                        clear f0 f1 f2 f3 f4 f5 f6 f7 f8 f9 f10 f11 f12 f13 f14 f15 hun
                        refine Ri9.wpOp_list rfl ?_
                        go_wp2
                        refine (HJ3.out _ _ _).2 ⟨fun k => if k = 11 then .pointer (some ⟨w6.heap.size, 1, none⟩) else v k, by simp [], (fun h => HFF.out.1 (by rw [getD_set_ne _ (by decide)] at h; exact h)), (fun h => HFF.out.2.1 (by rw [getD_set_ne _ (by decide)] at h; exact h)), (fun h => HFF.out.2.2.1 (by rw [getD_set_ne _ (by decide)] at h; exact h)), (fun h => HFF.out.2.2.2.1 (by rw [getD_set_ne _ (by decide)] at h; exact h)), (fun h => HFF.out.2.2.2.2.1 (by rw [getD_set_ne _ (by decide)] at h; exact h)), (fun h => HFF.out.2.2.2.2.2.1 (by rw [getD_set_ne _ (by decide)] at h; exact h)), (fun h => HFF.out.2.2.2.2.2.2.1 (by rw [getD_set_ne _ (by decide)] at h; exact h)), (fun h => HFF.out.2.2.2.2.2.2.2.1 (by rw [getD_set_ne _ (by decide)] at h; exact h)), (fun h => HFF.out.2.2.2.2.2.2.2.2.1 (by rw [getD_set_ne _ (by decide)] at h; exact h)), (fun h => HFF.out.2.2.2.2.2.2.2.2.2.1 (by rw [getD_set_ne _ (by decide)] at h; exact h)), (fun h => HFF.out.2.2.2.2.2.2.2.2.2.2.1 (by rw [getD_set_ne _ (by decide)] at h; exact h)), (fun _ => rfl), (fun h => HFF.out.2.2.2.2.2.2.2.2.2.2.2.2.1 (by rw [getD_set_ne _ (by decide)] at h; exact h)), (fun h => HFF.out.2.2.2.2.2.2.2.2.2.2.2.2.2.1 (by rw [getD_set_ne _ (by decide)] at h; exact h)), (fun h => HFF.out.2.2.2.2.2.2.2.2.2.2.2.2.2.2.1 (by rw [getD_set_ne _ (by decide)] at h; exact h)), (fun h => HFF.out.2.2.2.2.2.2.2.2.2.2.2.2.2.2.2 (by rw [getD_set_ne _ (by decide)] at h; exact h)), (fun h => HBW.out (by rw [getD_set_ne _ (by decide)] at h; exact h)), (fun h => H16.out (by rw [getD_set_ne _ (by decide)] at h; exact h))⟩
                      · cases ho
                        have e11 := f11 (HAF.out ⟨11, .data⟩ (by simp) rfl)
                        have HUN := Lib.hid hun
                        have n16 : li.getD 16 false = false := by
                          cases hx : li.getD 16 false
                          · rfl
                          · have a14 := HC.out 16 _ rfl hx ⟨14, .data⟩ (by simp) rfl
                            have a13 := HC.out 14 _ rfl a14 ⟨13, .data⟩ (by simp) rfl
                            have a12 := HC.out 13 _ rfl a13 ⟨12, .data⟩ (by simp) rfl
                            rw [get_def a12] at hun; cases hun
                        have hb16 := HBW.out n16
                        have cc := hb16.kp HX.out.2.2.2
                        have HB16 := Lib.hid hb16
                        clear hb16
                        have HFF := Lib.hid (And.intro f0 ( And.intro f1 ( And.intro f2 ( And.intro f3 ( And.intro f4 ( And.intro f5 ( And.intro f6 ( And.intro f7 ( And.intro f8 ( And.intro f9 ( And.intro f10 ( And.intro f11 ( And.intro f12 ( And.intro f13 ( And.intro f14 (f15))))))))))))))))
                        clear f0 f1 f2 f3 f4 f5 f6 f7 f8 f9 f10 f11 f12 f13 f14 f15 hun
                        refine Ri9.wpOp_list rfl ?_
                        go_wp2
                        refine (HJ3.out _ _ _).2 ⟨fun k => if k = 12 then .int .i64 Q else v k, by simp [e11], (fun h => HFF.out.1 (by rw [getD_set_ne _ (by decide)] at h; exact h)), (fun h => HFF.out.2.1 (by rw [getD_set_ne _ (by decide)] at h; exact h)), (fun h => HFF.out.2.2.1 (by rw [getD_set_ne _ (by decide)] at h; exact h)), (fun h => HFF.out.2.2.2.1 (by rw [getD_set_ne _ (by decide)] at h; exact h)), (fun h => HFF.out.2.2.2.2.1 (by rw [getD_set_ne _ (by decide)] at h; exact h)), (fun h => HFF.out.2.2.2.2.2.1 (by rw [getD_set_ne _ (by decide)] at h; exact h)), (fun h => HFF.out.2.2.2.2.2.2.1 (by rw [getD_set_ne _ (by decide)] at h; exact h)), (fun h => HFF.out.2.2.2.2.2.2.2.1 (by rw [getD_set_ne _ (by decide)] at h; exact h)), (fun h => HFF.out.2.2.2.2.2.2.2.2.1 (by rw [getD_set_ne _ (by decide)] at h; exact h)), (fun h => HFF.out.2.2.2.2.2.2.2.2.2.1 (by rw [getD_set_ne _ (by decide)] at h; exact h)), (fun h => HFF.out.2.2.2.2.2.2.2.2.2.2.1 (by rw [getD_set_ne _ (by decide)] at h; exact h)), (fun h => HFF.out.2.2.2.2.2.2.2.2.2.2.2.1 (by rw [getD_set_ne _ (by decide)] at h; exact h)), (fun _ => rfl), (fun h => HFF.out.2.2.2.2.2.2.2.2.2.2.2.2.2.1 (by rw [getD_set_ne _ (by decide)] at h; exact h)), (fun h => HFF.out.2.2.2.2.2.2.2.2.2.2.2.2.2.2.1 (by rw [getD_set_ne _ (by decide)] at h; exact h)), (fun h => HFF.out.2.2.2.2.2.2.2.2.2.2.2.2.2.2.2 (by rw [getD_set_ne _ (by decide)] at h; exact h)), (fun h => HBW.out (by rw [getD_set_ne _ (by decide)] at h; exact h)), (fun h => H16.out (by rw [getD_set_ne _ (by decide)] at h; exact h))⟩
                      · cases ho
                        have e7 := f7 (HAF.out ⟨7, .data⟩ (by simp) rfl)
                        have e8 := f8 (HAF.out ⟨8, .data⟩ (by simp) rfl)
                        have e10 := f10 (HAF.out ⟨10, .data⟩ (by simp) rfl)
                        have e12 := f12 (HAF.out ⟨12, .data⟩ (by simp) rfl)
                        have HUN := Lib.hid hun
                        have n16 : li.getD 16 false = false := by
                          cases hx : li.getD 16 false
                          · rfl
                          · have a14 := HC.out 16 _ rfl hx ⟨14, .data⟩ (by simp) rfl
                            have a13 := HC.out 14 _ rfl a14 ⟨13, .data⟩ (by simp) rfl
                            rw [get_def a13] at hun; cases hun
                        have hb16 := HBW.out n16
                        have HB16 := Lib.hid hb16
                        clear hb16
                        have HFF := Lib.hid (And.intro f0 ( And.intro f1 ( And.intro f2 ( And.intro f3 ( And.intro f4 ( And.intro f5 ( And.intro f6 ( And.intro f7 ( And.intro f8 ( And.intro f9 ( And.intro f10 ( And.intro f11 ( And.intro f12 ( And.intro f13 ( And.intro f14 (f15))))))))))))))))
                        clear f0 f1 f2 f3 f4 f5 f6 f7 f8 f9 f10 f11 f12 f13 f14 f15 hun
                        refine Ri9.wpOp_list rfl ?_
                        go_wp2_with (go_at_call 66; refine (AT.out _ (HT7.out.1.tr.bel HB16.out)).mono ?_; rintro e w8 ⟨rfl, rfl⟩)
                        refine (HJ3.out _ _ _).2 ⟨fun k => if k = 13 then .int .i64 mz else v k, by simp [e7, e8, e10, e12], (fun h => HFF.out.1 (by rw [getD_set_ne _ (by decide)] at h; exact h)), (fun h => HFF.out.2.1 (by rw [getD_set_ne _ (by decide)] at h; exact h)), (fun h => HFF.out.2.2.1 (by rw [getD_set_ne _ (by decide)] at h; exact h)), (fun h => HFF.out.2.2.2.1 (by rw [getD_set_ne _ (by decide)] at h; exact h)), (fun h => HFF.out.2.2.2.2.1 (by rw [getD_set_ne _ (by decide)] at h; exact h)), (fun h => HFF.out.2.2.2.2.2.1 (by rw [getD_set_ne _ (by decide)] at h; exact h)), (fun h => HFF.out.2.2.2.2.2.2.1 (by rw [getD_set_ne _ (by decide)] at h; exact h)), (fun h => HFF.out.2.2.2.2.2.2.2.1 (by rw [getD_set_ne _ (by decide)] at h; exact h)), (fun h => HFF.out.2.2.2.2.2.2.2.2.1 (by rw [getD_set_ne _ (by decide)] at h; exact h)), (fun h => HFF.out.2.2.2.2.2.2.2.2.2.1 (by rw [getD_set_ne _ (by decide)] at h; exact h)), (fun h => HFF.out.2.2.2.2.2.2.2.2.2.2.1 (by rw [getD_set_ne _ (by decide)] at h; exact h)), (fun h => HFF.out.2.2.2.2.2.2.2.2.2.2.2.1 (by rw [getD_set_ne _ (by decide)] at h; exact h)), (fun h => HFF.out.2.2.2.2.2.2.2.2.2.2.2.2.1 (by rw [getD_set_ne _ (by decide)] at h; exact h)), (fun _ => rfl), (fun h => HFF.out.2.2.2.2.2.2.2.2.2.2.2.2.2.2.1 (by rw [getD_set_ne _ (by decide)] at h; exact h)), (fun h => HFF.out.2.2.2.2.2.2.2.2.2.2.2.2.2.2.2 (by rw [getD_set_ne _ (by decide)] at h; exact h)), (fun h => HBW.out (by rw [getD_set_ne _ (by decide)] at h; exact h)), (fun h => H16.out (by rw [getD_set_ne _ (by decide)] at h; exact h))⟩
                      · cases ho
                        have e6 := f6 (HAF.out ⟨6, .data⟩ (by simp) rfl)
                        have e13 := f13 (HAF.out ⟨13, .data⟩ (by simp) rfl)
                        have HUN := Lib.hid hun
                        have HFF := Lib.hid (And.intro f0 ( And.intro f1 ( And.intro f2 ( And.intro f3 ( And.intro f4 ( And.intro f5 ( And.intro f6 ( And.intro f7 ( And.intro f8 ( And.intro f9 ( And.intro f10 ( And.intro f11 ( And.intro f12 ( And.intro f13 ( And.intro f14 (f15))))))))))))))))
                        clear f0 f1 f2 f3 f4 f5 f6 f7 f8 f9 f10 f11 f12 f13 f14 f15 hun
                        refine Ri9.wpOp_list rfl ?_
                        go_wp2
                        refine (HJ3.out _ _ _).2 ⟨fun k => if k = 14 then .int .i64 (z0 + mz) else v k, by simp [e6, e13], (fun h => HFF.out.1 (by rw [getD_set_ne _ (by decide)] at h; exact h)), (fun h => HFF.out.2.1 (by rw [getD_set_ne _ (by decide)] at h; exact h)), (fun h => HFF.out.2.2.1 (by rw [getD_set_ne _ (by decide)] at h; exact h)), (fun h => HFF.out.2.2.2.1 (by rw [getD_set_ne _ (by decide)] at h; exact h)), (fun h => HFF.out.2.2.2.2.1 (by rw [getD_set_ne _ (by decide)] at h; exact h)), (fun h => HFF.out.2.2.2.2.2.1 (by rw [getD_set_ne _ (by decide)] at h; exact h)), (fun h => HFF.out.2.2.2.2.2.2.1 (by rw [getD_set_ne _ (by decide)] at h; exact h)), (fun h => HFF.out.2.2.2.2.2.2.2.1 (by rw [getD_set_ne _ (by decide)] at h; exact h)), (fun h => HFF.out.2.2.2.2.2.2.2.2.1 (by rw [getD_set_ne _ (by decide)] at h; exact h)), (fun h => HFF.out.2.2.2.2.2.2.2.2.2.1 (by rw [getD_set_ne _ (by decide)] at h; exact h)), (fun h => HFF.out.2.2.2.2.2.2.2.2.2.2.1 (by rw [getD_set_ne _ (by decide)] at h; exact h)), (fun h => HFF.out.2.2.2.2.2.2.2.2.2.2.2.1 (by rw [getD_set_ne _ (by decide)] at h; exact h)), (fun h => HFF.out.2.2.2.2.2.2.2.2.2.2.2.2.1 (by rw [getD_set_ne _ (by decide)] at h; exact h)), (fun h => HFF.out.2.2.2.2.2.2.2.2.2.2.2.2.2.1 (by rw [getD_set_ne _ (by decide)] at h; exact h)), (fun _ => rfl), (fun h => HFF.out.2.2.2.2.2.2.2.2.2.2.2.2.2.2.2 (by rw [getD_set_ne _ (by decide)] at h; exact h)), (fun h => HBW.out (by rw [getD_set_ne _ (by decide)] at h; exact h)), (fun h => H16.out (by rw [getD_set_ne _ (by decide)] at h; exact h))⟩
                      · cases ho
                        have e3 := f3 (HAF.out ⟨3, .data⟩ (by simp) rfl)
                        have e4 := f4 (HAF.out ⟨4, .data⟩ (by simp) rfl)
                        have HUN := Lib.hid hun
                        have HFF := Lib.hid (And.intro f0 ( And.intro f1 ( And.intro f2 ( And.intro f3 ( And.intro f4 ( And.intro f5 ( And.intro f6 ( And.intro f7 ( And.intro f8 ( And.intro f9 ( And.intro f10 ( And.intro f11 ( And.intro f12 ( And.intro f13 ( And.intro f14 (f15))))))))))))))))
                        clear f0 f1 f2 f3 f4 f5 f6 f7 f8 f9 f10 f11 f12 f13 f14 f15 hun
                        refine Ri9.wpOp_list rfl ?_
                        go_wp2
                        refine (HJ3.out _ _ _).2 ⟨fun k => if k = 15 then .pointer (some ⟨rr p, q, none⟩) else v k, by simp [e3, e4], (fun h => HFF.out.1 (by rw [getD_set_ne _ (by decide)] at h; exact h)), (fun h => HFF.out.2.1 (by rw [getD_set_ne _ (by decide)] at h; exact h)), (fun h => HFF.out.2.2.1 (by rw [getD_set_ne _ (by decide)] at h; exact h)), (fun h => HFF.out.2.2.2.1 (by rw [getD_set_ne _ (by decide)] at h; exact h)), (fun h => HFF.out.2.2.2.2.1 (by rw [getD_set_ne _ (by decide)] at h; exact h)), (fun h => HFF.out.2.2.2.2.2.1 (by rw [getD_set_ne _ (by decide)] at h; exact h)), (fun h => HFF.out.2.2.2.2.2.2.1 (by rw [getD_set_ne _ (by decide)] at h; exact h)), (fun h => HFF.out.2.2.2.2.2.2.2.1 (by rw [getD_set_ne _ (by decide)] at h; exact h)), (fun h => HFF.out.2.2.2.2.2.2.2.2.1 (by rw [getD_set_ne _ (by decide)] at h; exact h)), (fun h => HFF.out.2.2.2.2.2.2.2.2.2.1 (by rw [getD_set_ne _ (by decide)] at h; exact h)), (fun h => HFF.out.2.2.2.2.2.2.2.2.2.2.1 (by rw [getD_set_ne _ (by decide)] at h; exact h)), (fun h => HFF.out.2.2.2.2.2.2.2.2.2.2.2.1 (by rw [getD_set_ne _ (by decide)] at h; exact h)), (fun h => HFF.out.2.2.2.2.2.2.2.2.2.2.2.2.1 (by rw [getD_set_ne _ (by decide)] at h; exact h)), (fun h => HFF.out.2.2.2.2.2.2.2.2.2.2.2.2.2.1 (by rw [getD_set_ne _ (by decide)] at h; exact h)), (fun h => HFF.out.2.2.2.2.2.2.2.2.2.2.2.2.2.2.1 (by rw [getD_set_ne _ (by decide)] at h; exact h)), (fun _ => rfl), (fun h => HBW.out (by rw [getD_set_ne _ (by decide)] at h; exact h)), (fun h => H16.out (by rw [getD_set_ne _ (by decide)] at h; exact h))⟩
                      · cases ho
                        have e15 := f15 (HAF.out ⟨15, .data⟩ (by simp) rfl)
                        have e14 := f14 (HAF.out ⟨14, .data⟩ (by simp) rfl)
                        have HUN := Lib.hid hun
                        have n16 : li.getD 16 false = false := by
                          cases hx : li.getD 16 false
                          · rfl
                          · rw [get_def hx] at hun; cases hun
                        have hb16 := HBW.out n16
                        have cc := hb16.kp HX.out.2.1
                        have yy := ((HT7.out.1.bk p hpi).bel hb16).fr q
                        have HB16 := Lib.hid hb16
                        clear hb16
                        have HFF := Lib.hid (And.intro f0 ( And.intro f1 ( And.intro f2 ( And.intro f3 ( And.intro f4 ( And.intro f5 ( And.intro f6 ( And.intro f7 ( And.intro f8 ( And.intro f9 ( And.intro f10 ( And.intro f11 ( And.intro f12 ( And.intro f13 ( And.intro f14 (f15))))))))))))))))
                        clear f0 f1 f2 f3 f4 f5 f6 f7 f8 f9 f10 f11 f12 f13 f14 f15 hun
                        refine Ri9.wpOp_list rfl ?_
                        go_wp2
                        refine (HJ3.out _ _ _).2 ⟨v, by simp [e15, e14], (fun h => HFF.out.1 (by rw [getD_set_ne _ (by decide)] at h; exact h)), (fun h => HFF.out.2.1 (by rw [getD_set_ne _ (by decide)] at h; exact h)), (fun h => HFF.out.2.2.1 (by rw [getD_set_ne _ (by decide)] at h; exact h)), (fun h => HFF.out.2.2.2.1 (by rw [getD_set_ne _ (by decide)] at h; exact h)), (fun h => HFF.out.2.2.2.2.1 (by rw [getD_set_ne _ (by decide)] at h; exact h)), (fun h => HFF.out.2.2.2.2.2.1 (by rw [getD_set_ne _ (by decide)] at h; exact h)), (fun h => HFF.out.2.2.2.2.2.2.1 (by rw [getD_set_ne _ (by decide)] at h; exact h)), (fun h => HFF.out.2.2.2.2.2.2.2.1 (by rw [getD_set_ne _ (by decide)] at h; exact h)), (fun h => HFF.out.2.2.2.2.2.2.2.2.1 (by rw [getD_set_ne _ (by decide)] at h; exact h)), (fun h => HFF.out.2.2.2.2.2.2.2.2.2.1 (by rw [getD_set_ne _ (by decide)] at h; exact h)), (fun h => HFF.out.2.2.2.2.2.2.2.2.2.2.1 (by rw [getD_set_ne _ (by decide)] at h; exact h)), (fun h => HFF.out.2.2.2.2.2.2.2.2.2.2.2.1 (by rw [getD_set_ne _ (by decide)] at h; exact h)), (fun h => HFF.out.2.2.2.2.2.2.2.2.2.2.2.2.1 (by rw [getD_set_ne _ (by decide)] at h; exact h)), (fun h => HFF.out.2.2.2.2.2.2.2.2.2.2.2.2.2.1 (by rw [getD_set_ne _ (by decide)] at h; exact h)), (fun h => HFF.out.2.2.2.2.2.2.2.2.2.2.2.2.2.2.1 (by rw [getD_set_ne _ (by decide)] at h; exact h)), (fun h => HFF.out.2.2.2.2.2.2.2.2.2.2.2.2.2.2.2 (by rw [getD_set_ne _ (by decide)] at h; exact h)), (fun h => by rw [get_set HUN.out] at h; cases h), (fun _ => ⟨_, HB16.out, rfl⟩)⟩
                      · exact absurd ho (by simp)
                    · intro li a W hJ3 hall
                      obtain ⟨v, rfl, f0, f1, f2, f3, f4, f5, f6, f7, f8, f9, f10, f11, f12, f13, f14, f15, hB, h16⟩ := (HJ3.out _ _ _).1 hJ3
                      obtain ⟨W1x, hb1, rfl⟩ := h16 (hall 16 (by show 16 < 17; omega))
                      clear hB h16 hall hJ3 f0 f1 f2 f3 f4 f5 f6 f7 f8 f9 f10 f11 f12 f13 f14 f15
                      have HB1x := Lib.hid hb1
                      clear hb1
                      go_wp2
                      go_roundw
                      case rel => exact ⟨q + 1, fun x => if x = p then (R1 p).set q (z0 + mz) else R1 x, _, rfl, by omega, by go_num, (HT7.out.1.bel HB1x.out).st hpi (z0 + mz), HT3.out.2.1.put hqm (HT7.out.1.len p hpi) (z0 + mz) HWT.out.symm, (HT7.out.2.tr HB1x.out).st (p := ⟨rr p, q, none⟩) (by show w.heap.size ≤ rr p; rw [HHH.out]; exact hgt) _⟩
                      case measure => simp [intOf]; omega
              · have OK : Hid (∀ W, _) := fun W => out_yes i m b (p : Int) (q : Int) (fun hh => hB ⟨hh.2.2.2.2.1, hh.2.2.2.2.2⟩) (by omega) (by omega) (by omega) (by omega) (by omega) (by omega) W
                have HBN := Lib.hid hB
                clear hB e2 e3 e4 f4
                go_wp2_with fail
                go_at_call 64
                refine (OK.out _).mono ?_
                rintro e w5 ⟨rfl, rfl⟩
                go_wp2
                go_roundw
                case rel => exact ⟨q + 1, R, _, rfl, by omega, by go_num, HT2.out.1, HT2.out.2.skip HBN.out, HBZ.out⟩
                case measure => simp [intOf]; omega
            · obtain rfl : q = m := by omega
              clear htw hdn hb
              go_wp2
              go_roundw
              case rel => exact ⟨p + 1, R, _, rfl, by omega, by go_num, HT2.out.1, HT2.out.2.row, HBZ.out⟩
              case measure => simp [intOf]; omega
        · obtain rfl : p = i := by omega
          clear hb
          go_wp2
          go_ret
          exact ⟨h, rr, R, rfl, HT.out.1, HT.out.2, HBQ.out⟩
end Go.Proofs.Ythmdponfigepjaa.R14
