/- The contracts of window.Of, Stats and Variance over samples, of keep's Ints, and of the law's awake. -/
import Derived.Test.YtiomiohdeghpiaaWinOf
import Derived.Test.YtiomiohdeghpiaaShelf
namespace Go.Proofs.Ytiomiohdeghpiaa.Wi
open Go.ChangeShapes Go.WideShapes Go.RowKit Wo Sr
set_option linter.unusedVariables false
theorem add_row (h j : Nat) : (⟨h, 0, none⟩ : Addr).add j = ⟨h, j, none⟩ := by unfold Addr.add; split <;> simp_all
/-- the numbers at their cells -/
theorem Zi.at {w : World} {g n : Nat} {L : List Int} (h : Zi w (some ⟨g, 0, none⟩) n L) (j : Nat) (hj : j < n) : w.cell? ⟨g, j, none⟩ = some (.int .i64 (L.getD j 0)) := by
  obtain ⟨ad, e, _, hc⟩ := h.2 (by omega)
  cases e
  have := hc j hj
  rwa [add_row] at this
theorem zi_bk {w : World} {h : Nat} {t : TypeId} {L : List Int} (hb : Bk w h t (zs L).toArray) (n : Nat) (hn : L.length = n) : Zi w (some ⟨h, 0, none⟩) n L := by
  subst hn
  refine ⟨rfl, fun _ => ⟨_, rfl, hb.lt, fun j hj => ?_⟩⟩
  rw [add_row, hb.cell j]
  simpa using zs_at hj
/-- a store into a block that holds slices leaves the numbers as they are -/
theorem zi_st {w : World} {A : Option Addr} {n : Nat} {L : List Int} (h : Zi w A n L) {p : Addr} {a : Option Addr} {x y : Nat} (hp : w.cell? p = some (.slice a x y)) (u : Value) : Zi (w.setCell p u) A n L :=
  ⟨h.1, fun hn => by
    obtain ⟨ad, e, hx, hcc⟩ := h.2 hn
    refine ⟨ad, e, by simpa [World.setCell] using hx, fun j hj => ?_⟩
    have h1 := hcc j hj
    refine (World.cell?_setCell_other _ _ _ _ (fun e => ?_)).trans h1
    rw [e] at hp
    rw [hp] at h1
    cases h1⟩
set_option maxHeartbeats 4000000 in
set_option maxRecDepth 100000 in
theorem of_ok (A : Option Addr) (c n : Nat) (L : List Int) (hn : n ≤ 2000) (hs : Sam L) (w : World) (h : Zi w A n L) :
    Calls Try.prog 14 #[.slice A n c] w fun e w' =>
      ∃ g1 c1 g2 c2, e = .returned (.tuple #[.agg #[.slice (some ⟨g1, 0, none⟩) (n + 1) c1, .slice (some ⟨g2, 0, none⟩) (n + 1) c2], .int .i64 0]) ∧ Zi w' (some ⟨g1, 0, none⟩) (n + 1) (begs ix L) ∧ Zi w' (some ⟨g2, 0, none⟩) (n + 1) (begs sq L) ∧ Bel w w' := by
  have H1 := Lib.hid h
  have HS := Lib.hid hs
  have hl := h.1
  have ni : (n : Int) ≤ 2000 := by omega
  clear h hs
  go_enter Try.func14, Try.ntmps14
  go_wp2_with fail
  go_at_call 31
  refine (samples_ok A c n L (by omega) HS.out _ (H1.out.bel (Bel.rf.al _))).mono ?_
  rintro e w1 ⟨rfl, hb1⟩
  have HB1 : Hid (Bel w w1) := (Bel.rf.al _).tr hb1
  have HK1 : Hid (Bk w1 w.heap.size 24 #[.slice none 0 0, .slice none 0 0]) := (Bk.nw _ _ _).bel hb1
  clear hb1
  go_wp2_with fail
  go_at_call 32
  refine (beg_ix A c n L hn HS.out _ (H1.out.bel HB1.out)).mono ?_
  rintro e w2 ⟨g1, c1, rfl, ho1, hb2⟩
  have HB2 := Lib.hid (HB1.out.tr hb2)
  have HK2 := Lib.hid (HK1.out.bel hb2)
  have HZ1 := Lib.hid (own_zi ho1 (by rw [begs_len]; omega))
  clear ho1 hb2
  go_wp2_with fail
  go_at_call 32
  refine (beg_sq A c n L hn HS.out _ (H1.out.bel HB2.out)).mono ?_
  rintro e w3 ⟨g2, c2, rfl, ho2, hb3⟩
  have HB3 := Lib.hid (HB2.out.tr hb3)
  have HK3 := Lib.hid (HK2.out.bel hb3)
  have HZ2 := Lib.hid (own_zi ho2 (by rw [begs_len]; omega))
  have HZ1' := Lib.hid (HZ1.out.bel hb3)
  clear ho2 hb3
  have l0 : w3.cell? ⟨w.heap.size, 0, none⟩ = some (.slice none 0 0) := HK3.out.cell 0
  have l1 : w3.cell? ⟨w.heap.size, 1, none⟩ = some (.slice none 0 0) := HK3.out.cell 1
  have j0 : w3.frozen? ⟨w.heap.size, 0, none⟩ = false := HK3.out.fr 0
  have j1 : w3.frozen? ⟨w.heap.size, 1, none⟩ = false := HK3.out.fr 1
  go_wp2
  refine bodyPost_ret (v := .tuple #[.agg #[.slice (some ⟨g1, 0, none⟩) (n + 1) c1, .slice (some ⟨g2, 0, none⟩) (n + 1) c2], .int .i64 0]) (by simp [results, Try.results14, go_sem, l0, l1]) rfl ⟨g1, c1, g2, c2, rfl, ?_, ?_, ?_⟩
  · exact zi_st (zi_st HZ1'.out l0 _) (a := none) (x := 0) (y := 0) ((HK3.out.st 0 _).cell 1) _
  · exact zi_st (zi_st HZ2.out l0 _) (a := none) (x := 0) (y := 0) ((HK3.out.st 0 _).cell 1) _
  · exact (HB3.out.st (Nat.le_refl _) _).st (Nat.le_refl _) _
theorem eq_ok {g h c d n : Nat} {L : List Int} (hn : n ≤ 1000000) (w : World) (h1 : Zi w (some ⟨g, 0, none⟩) n L) (h2 : Zi w (some ⟨h, 0, none⟩) n L) :
    Calls Try.prog 42 #[.slice (some ⟨g, 0, none⟩) n c, .slice (some ⟨h, 0, none⟩) n d] w fun e w' => e = .returned (.bool true) ∧ Bel w w' := by
  have hl := h1.1
  refine (Try.slices_Equal_int g 0 n c h 0 n d L L w (by omega) (by omega) (by omega) (by omega) (fun j hj => ?_) (fun j hj => ?_)).mono fun e w' ⟨he, q, hw⟩ => ⟨by rw [he]; simp, by rw [hw]; exact Bel.rf.drwN _⟩
  · rw [Nat.zero_add]; exact h1.at j (by omega)
  · rw [Nat.zero_add]; exact h2.at j (by omega)
/-- the first k numbers, and zeros -/
def part (L : List Int) (k : Nat) : List Int := L.take k ++ List.replicate (L.length - k) 0
theorem part_len (L : List Int) {k : Nat} (h : k ≤ L.length) : (part L k).length = L.length := by simp [part]; omega
theorem part_set (L : List Int) {k : Nat} (h : k < L.length) : (zs (part L k)).toArray.setIfInBounds k (.int .i64 (L.getD k 0)) = (zs (part L (k + 1))).toArray := by
  have e : (part L k).set k (L.getD k 0) = part L (k + 1) := by
    unfold part
    rw [take_snoc L k h, show L.length - k = (L.length - (k + 1)) + 1 by omega, List.replicate_succ, List.set_append_right _ _ (by simp; omega)]
    have : k - (L.take k).length = 0 := by simp; omega
    rw [this, List.set_cons_zero, List.append_assoc]
    rfl
  rw [← e]
  simp [zs]
theorem part_all (L : List Int) : part L L.length = L := by simp [part]
theorem part_zero (L : List Int) : part L 0 = List.replicate L.length 0 := by simp [part]
set_option maxHeartbeats 8000000 in
set_option maxRecDepth 100000 in
theorem valid_ok (g1 c1 g2 c2 n : Nat) (L : List Int) (hn : n ≤ 2000) (hl : L.length = n) (hs : Sam L) (w : World) (h1 : Zi w (some ⟨g1, 0, none⟩) (n + 1) (begs ix L)) (h2 : Zi w (some ⟨g2, 0, none⟩) (n + 1) (begs sq L)) :
    Calls Try.prog 39 #[.agg #[.slice (some ⟨g1, 0, none⟩) (n + 1) c1, .slice (some ⟨g2, 0, none⟩) (n + 1) c2]] w fun e w' => e = .returned (.bool true) ∧ Bel w w' := by
  obtain ⟨i0, hi0, hz0, hz1, hz2⟩ := info_parts info_int
  have HI := Lib.hid (And.intro hi0 (And.intro hz0 (And.intro hz1 hz2)))
  clear hi0 hz0 hz1 hz2
  have H1 := Lib.hid h1
  have H2 := Lib.hid h2
  have HS := Lib.hid hs
  have ni : (n : Int) ≤ 2000 := by omega
  have HR0 : Hid (∃ (k : Nat) (V : World), V = ((w.alloc (.cells #[.slice (some ⟨g1, 0, none⟩) (n + 1) c1, .slice (some ⟨g2, 0, none⟩) (n + 1) c2] 24)).alloc (.cells (zs (List.replicate n 0)).toArray 3)) ∧ k ≤ n ∧ (Value.int .i64 0) = .int .i64 (k : Int) ∧ Bk ((w.alloc (.cells #[.slice (some ⟨g1, 0, none⟩) (n + 1) c1, .slice (some ⟨g2, 0, none⟩) (n + 1) c2] 24)).alloc (.cells (zs (List.replicate n 0)).toArray 3)) (w.heap.size + 1) 3 (zs (part L k)).toArray ∧ Bk ((w.alloc (.cells #[.slice (some ⟨g1, 0, none⟩) (n + 1) c1, .slice (some ⟨g2, 0, none⟩) (n + 1) c2] 24)).alloc (.cells (zs (List.replicate n 0)).toArray 3)) w.heap.size 24 #[.slice (some ⟨g1, 0, none⟩) (n + 1) c1, .slice (some ⟨g2, 0, none⟩) (n + 1) c2] ∧ Bel w ((w.alloc (.cells #[.slice (some ⟨g1, 0, none⟩) (n + 1) c1, .slice (some ⟨g2, 0, none⟩) (n + 1) c2] 24)).alloc (.cells (zs (List.replicate n 0)).toArray 3))) :=
    ⟨0, _, rfl, by omega, rfl, by rw [part_zero, hl]; exact Bk.nq _ _ _ (by simp), (Bk.nw _ _ _).al _, (Bel.rf.al _).al _⟩
  clear h1 h2 hs
  go_enter Try.func39, Try.ntmps39
  go_wp2_with (refine wpList_make_any _ rfl (.tmp 20) (.tmp 20) 22 rfl 3 i0 (.int .i64 0) 1 Try.underlying22 HI.out.1 HI.out.2.1 HI.out.2.2.1 .i64 .i64 _ _ n n rfl rfl (by omega) (by omega) (by omega) (by rw [HI.out.2.2.2]; omega) (by omega) ?_; rw [made_i64])
  go_loopw [24] (fun s24 wr => ∃ (k : Nat) (V : World), V = wr ∧ k ≤ n ∧ s24 = .int .i64 (k : Int) ∧ Bk wr (w.heap.size + 1) 3 (zs (part L k)).toArray ∧ Bk wr w.heap.size 24 #[.slice (some ⟨g1, 0, none⟩) (n + 1) c1, .slice (some ⟨g2, 0, none⟩) (n + 1) c2] ∧ Bel w wr) (fun s24 _ => n - (intOf s24).toNat)
  case atStart => exact HR0.out
  case round =>
    clear HR0
    obtain ⟨k, wr, hwr, hk, rfl, hp, hbx, hb⟩ := hrel
    subst hwr
    have HP := Lib.hid hp
    have HX := Lib.hid hbx
    have HB := Lib.hid hb
    have l0 : wr.cell? ⟨w.heap.size, 0, none⟩ = some (.slice (some ⟨g1, 0, none⟩) (n + 1) c1) := hbx.cell 0
    rcases Nat.lt_or_ge k n with hlt | hge
    · have d1 := (H1.out.bel hb).at (k + 1) (by omega)
      have d2 := (H1.out.bel hb).at k (by omega)
      rw [begs_at _ _ _ (by omega)] at d1 d2
      have hnx := su_next ix L k (by omega)
      have hsb := su_in (HS.out.take k)
      have hsc := su_in (HS.out.take (k + 1))
      have htl : ((L.take k).length : Int) ≤ 2000 ∧ ((L.take (k + 1)).length : Int) ≤ 2000 := by have := List.length_take_le k L; have := List.length_take_le (k + 1) L; omega
      obtain ⟨s, hse⟩ : ∃ s, su ix (L.take k) = s := ⟨_, rfl⟩
      obtain ⟨s', hse'⟩ : ∃ s, su ix (L.take (k + 1)) = s := ⟨_, rfl⟩
      rw [hse] at d2 hsb hnx
      rw [hse'] at d1 hsc hnx
      have HDX : Hid (s' - s = L.getD k 0) := by show _ = _; simp only [ix] at hnx; omega
      have s0 : -2000000 ≤ s ∧ s ≤ 2000000 ∧ -2000000 ≤ s' ∧ s' ≤ 2000000 := by omega
      obtain ⟨s00, s01, s02, s03⟩ := s0
      have f1 : wr.frozen? ⟨w.heap.size + 1, k, none⟩ = false := hp.fr k
      have e1 : wr.cell? ⟨w.heap.size + 1, k, none⟩ = some (.int .i64 ((part L k).getD k 0)) := by
        rw [hp.cell k]
        have : (zs (part L k))[k]? = some (.int .i64 ((part L k).getD k 0)) := zs_at (by rw [part_len L (by omega)]; omega)
        simpa using this
      generalize (part L k).getD k 0 = q0 at e1
      have ki : (k : Int) < (n : Int) := by omega
      have kn : k < n + 1 := by omega
      have kn1 : k + 1 < n + 1 := by omega
      clear hb hp hbx hnx hsb hsc htl hse hse'
      go_wp2
      go_region
      all_goals
        go_wp2
        go_roundw
        case rel =>
          refine ⟨k + 1, _, rfl, by omega, by go_num, ?_, ?_, ?_⟩
          · have h4 := HP.out.st k (.int .i64 (s' - s))
            rw [HDX.out, part_set L (by omega)] at h4
            rw [HDX.out]
            first | exact h4 | exact h4.drw | exact h4.drwN _
          · have h4 := HX.out.far (p := ⟨w.heap.size + 1, k, none⟩) (by show _ ≠ _; simp only []; omega) (.int .i64 (s' - s))
            first | exact h4 | exact h4.drw | exact h4.drwN _
          · have h4 := HB.out.st (p := ⟨w.heap.size + 1, k, none⟩) (by show _ ≤ _; simp only []; omega) (.int .i64 (s' - s))
            first | exact h4 | exact h4.drw | exact h4.drwN _
        case measure => simp [intOf]; omega
    · obtain rfl : k = n := by omega
      have hz : Zi wr (some ⟨w.heap.size + 1, 0, none⟩) k L := by
        have := HP.out
        rw [← hl, part_all] at this
        exact zi_bk this k hl
      have HZ := Lib.hid hz
      clear hb hp hbx hz
      go_wp2_with fail
      go_at_call 14
      refine (of_ok _ _ k L hn HS.out _ HZ.out).mono ?_
      rintro e w4 ⟨h1, d1, h2, d2, rfl, hz1, hz2, hb4⟩
      have HZ1 := Lib.hid hz1
      have HZ2 := Lib.hid hz2
      have HB4 := Lib.hid (HB.out.tr hb4)
      have HX4 := HX.out.bel hb4
      have x0 : w4.cell? ⟨w.heap.size, 0, none⟩ = some (.slice (some ⟨g1, 0, none⟩) (k + 1) c1) := HX4.cell 0
      have x1 : w4.cell? ⟨w.heap.size, 1, none⟩ = some (.slice (some ⟨g2, 0, none⟩) (k + 1) c2) := HX4.cell 1
      have x2 : ∀ o, (w4.alloc o).cell? ⟨w.heap.size, 0, none⟩ = some (.slice (some ⟨g1, 0, none⟩) (k + 1) c1) := fun o => kp_al x0 o
      have x3 : ∀ o, (w4.alloc o).cell? ⟨w.heap.size, 1, none⟩ = some (.slice (some ⟨g2, 0, none⟩) (k + 1) c2) := fun o => kp_al x1 o
      have HY := Lib.hid HX4
      clear hz1 hz2 hb4 HX4 l0
      go_wp2_with fail
      go_at_call 42
      refine (eq_ok (by omega) _ (HZ1.out.bel (Bel.rf.al _)) (H1.out.bel (HB4.out.al _))).mono ?_
      rintro e w5 ⟨rfl, hb5⟩
      have HB5 := Lib.hid ((HB4.out.al _).tr hb5)
      have HB45 : Hid (Bel w4 w5) := (Bel.rf.al _).tr hb5
      have HX5 := HY.out.bel HB45.out
      have y0 : w5.cell? ⟨w.heap.size, 0, none⟩ = some (.slice (some ⟨g1, 0, none⟩) (k + 1) c1) := HX5.cell 0
      have y1 : w5.cell? ⟨w.heap.size, 1, none⟩ = some (.slice (some ⟨g2, 0, none⟩) (k + 1) c2) := HX5.cell 1
      have HN5 : Bk w5 w4.heap.size 24 #[.slice (some ⟨h1, 0, none⟩) (k + 1) d1, .slice (some ⟨h2, 0, none⟩) (k + 1) d2] := (Bk.nw _ _ _).bel hb5
      have y2 : w5.cell? ⟨w4.heap.size, 0, none⟩ = some (.slice (some ⟨h1, 0, none⟩) (k + 1) d1) := HN5.cell 0
      have y3 : w5.cell? ⟨w4.heap.size, 1, none⟩ = some (.slice (some ⟨h2, 0, none⟩) (k + 1) d2) := HN5.cell 1
      clear hb5 HX5 HN5 x0 x1 x2 x3
      go_wp2_with (go_at_call 42; refine (eq_ok (by omega) _ (HZ2.out.bel HB45.out) (H2.out.bel HB5.out)).mono ?_; rintro e w6 ⟨rfl, hb6⟩)
      go_ret
      exact ⟨rfl, HB5.out.tr hb6⟩
end Go.Proofs.Ytiomiohdeghpiaa.Wi
