/- delta's encode. -/
import Derived.Test.YtaplbkfmedofcaaSgQ
import Derived.Deep.RegionWith
namespace Go.Proofs.Ytaplbkfmedofcaa.Sg
open Go.ChangeShapes Go.WideShapes Go.RowKit Wo Bm By Cd Pk
open Wi (Zi zi_bk)
set_option linter.unusedVariables false
theorem add_zero (ad : Addr) : ad.add 0 = ad := by unfold Addr.add; simp
theorem kp_far {w : World} {p q : Addr} {v : Value} (h : w.cell? q = some v) (hne : q.block ≠ p.block) (u : Value) : (w.setCell p u).cell? q = some v :=
  (World.cell?_setCell_other _ _ _ _ (fun e => hne (by rw [e]))).trans h
theorem putn (n : Int) (h : In64 n) (k : Nat) (hk : (bytesOf n).length = k) (w : World) : Calls Try.prog 30 #[.slice none 0 0, .int .i64 n] w fun e w' => ∃ g : Nat, e = .returned (.slice (some ⟨g, 0, none⟩) k 10) ∧ w'.ownsRow w.heap.size 5 1 (.slice (some ⟨g, 0, none⟩) k 10) k (bys (bytesOf n)) ∧ Bel w w' := by
  have := put_any none 0 [] n h.1 h.2 (by simp) w (Rd.nil w none)
  refine this.mono ?_
  rintro e w' ⟨g, rfl, ho, hb⟩
  simp only [List.length_nil, Nat.zero_add, List.nil_append, hk] at ho ⊢
  exact ⟨g, rfl, ho, hb⟩
/-- what a kind keeps of samples -/
def SomeKe (D : List Nat) (w : World) (e : Ending) (w' : World) : Prop := ∃ (A : Option Addr) (N c : Nat), e = .returned (.tuple #[.slice A N c, .bool true]) ∧ D.length = N ∧ Rd w' A N D ∧ (A = none → c = 0) ∧ Bel w w'
theorem own_rd {w : World} {base n : Nat} {v : Value} {L : List Nat} (h : w.ownsRow base 5 1 v n (bys L)) (hl : ∀ c ∈ L, c < 256) (hn : L.length = n) (h0 : 0 < n) : ∃ g c, v = .slice (some ⟨g, 0, none⟩) n c ∧ n ≤ c ∧ c ≤ maxLen ∧ base ≤ g ∧ Rd w (some ⟨g, 0, none⟩) n L := by
  rcases h.2 with ⟨_, h9⟩ | ⟨g, cap, cur, rfl, hb, hg, hc, hm, _⟩
  · omega
  · exact ⟨g, cap, rfl, hc, hm, hb, Rd.own h hl hn⟩
set_option maxHeartbeats 8000000 in
set_option maxRecDepth 100000 in
theorem kenc2 (A : Option Addr) (c n : Nat) (x : List Int) (hv : Vx x) (hn : x.length = n) (K C Lo G S : Int) (w : World) (hz : Zi w A n x) :
    Calls Try.prog 93 #[.agg #[], .slice A n c, hdv K C Lo G S] w (SomeKe (dd x) w) := by
  obtain ⟨i0, hi0, hz0, hz1, hz2⟩ := info_parts Pk.info_int
  have HI := Lib.hid (And.intro hi0 (And.intro hz0 (And.intro hz1 hz2)))
  clear hi0 hz0 hz1 hz2
  obtain ⟨j0, hi0, hz0, hz1, hz2⟩ := info_parts info_u8
  have HJ := Lib.hid (And.intro hi0 (And.intro hz0 (And.intro hz1 hz2)))
  clear hi0 hz0 hz1 hz2
  have HZ := Lib.hid hz
  have hn1 : 1 ≤ n ∧ n ≤ 64 := by have := hv.1; have := hv.2.1; omega
  obtain ⟨p, hp⟩ : ∃ p, n - 1 = p := ⟨_, rfl⟩
  have hal : (stp x).length = p := by rw [stp_len, hn, hp]
  have HAT : Hid (∀ i, i < p → -1000 ≤ x.getD i 0 ∧ x.getD i 0 ≤ 1000 ∧ -1000 ≤ x.getD (i + 1) 0 ∧ x.getD (i + 1) 0 ≤ 1000 ∧ (stp x).getD i 0 = fld (x.getD (i + 1) 0 - x.getD i 0) ∧ (stp x).getD i 0 < 4096) := fun i hi => ⟨(hv.2.2.at i).1, (hv.2.2.at i).2, (hv.2.2.at (i + 1)).1, (hv.2.2.at (i + 1)).2, stp_at (by omega), by
    have hi2 : i < (stp x).length := by omega
    rw [List.getD_eq_getElem?_getD, List.getElem?_eq_getElem hi2]; exact stp_lt hv.2.2 _ (List.getElem_mem hi2)⟩
  have h0 := hv.2.2.at 0
  have HWD : Hid (∀ (g : Nat) (W : World), Bk W g 3 (nums (stp x)).toArray → Calls Try.prog 85 #[.slice (some ⟨g, 0, none⟩) p p] W fun e w' => e = .returned (.int .i64 (wd (stp x) : Int)) ∧ W = w') := fun g W hb => by
    have h2 := width_any (some ⟨g, 0, none⟩) p (stp x) (by omega) (fun m hm => by have := stp_lt hv.2.2 m hm; omega) W (by rw [hal]; exact ri_bk hb p hal)
    rw [hal] at h2
    exact h2
  obtain ⟨N, hN⟩ : ∃ N, ((stp x).length * wd (stp x) + 7) / 8 = N := ⟨_, rfl⟩
  have HPK : Hid (∀ (g : Nat) (W : World), Bk W g 3 (nums (stp x)).toArray → Calls Try.prog 84 #[.slice (some ⟨g, 0, none⟩) p p, .int .i64 (wd (stp x) : Int)] W (PackOk (stp x) (wd (stp x)) N W)) := fun g W hb => by
    have h1 := ri_bk hb p hal
    have h2 := pack_any (some ⟨g, 0, none⟩) p (stp x) (wd (stp x)) N hN (by omega) (by have := dw_le hv.2.2; omega) (fun m hm => by have := stp_lt hv.2.2 m hm; omega) W (by rw [hal]; exact h1)
    rw [hal] at h2
    refine h2.mono ?_
    rintro e w' (⟨_, h⟩ | ⟨⟨v, hv1, hv2⟩, _⟩)
    · exact h
    · have := stp_fits hv.2.2 v hv1; omega
  have hNb : N ≤ 96 := by have := dw_le hv.2.2; have := Nat.mul_le_mul (show (stp x).length ≤ 63 by omega) this; omega
  have HDD : Hid (dd x = bytesOf (x.getD 0 0) ++ [wd (stp x)] ++ packed (stp x) (wd (stp x))) := by show dd x = _; simp [dd]
  have HDL := Lib.hid (dd_len hv)
  have HDB := Lib.hid (dd_byte hv)
  have hql := dw_le hv.2.2
  obtain ⟨L, hL⟩ : ∃ L, stp x = L := ⟨_, rfl⟩
  rw [hL] at hal HAT HPK HWD HDD hql hN
  obtain ⟨q, hq⟩ : ∃ q, wd L = q := ⟨_, rfl⟩
  rw [hq] at HPK HWD HDD hql hN
  have HPL : Hid ((packed L q).length = N) := (packed_len L q).trans hN
  obtain ⟨z0, hz0⟩ : ∃ z, x.getD 0 0 = z := ⟨_, rfl⟩
  rw [hz0] at h0 HDD
  obtain ⟨k0, hk0⟩ : ∃ k, (bytesOf z0).length = k := ⟨_, rfl⟩
  have hk10 := bytesOf_len z0
  rw [hk0] at hk10
  have HPN := Lib.hid (fun W => putn z0 (by unfold In64; omega) k0 hk0 W)
  have HKK := Lib.hid hk0
  have HZ0 := Lib.hid hz0
  have HAL := Lib.hid hal
  have ni : (n : Int) ≤ 64 := by omega
  have ni1 : (1 : Int) ≤ (n : Int) := by omega
  have pe : (n : Int) - 1 = (p : Int) := by omega
  have pi : (p : Int) ≤ 63 := by omega
  have q256 : (q : Int) % 256 = (q : Int) := by omega
  have qb : (q : Int) ≤ 12 := by omega
  clear hz hL hq hN hal hk0 hz0
  have HB0 : Hid (KRel L p (w.heap.size + 2) (hcs K C Lo G S) w (.int .i64 0) (((w.alloc (.cells #[] 101)).alloc (.cells (hcs K C Lo G S) 34)).alloc (.cells (nums (List.replicate p 0)).toArray 3))) :=
    ⟨0, _, rfl, by omega, rfl, by rw [fl_zero]; exact Bk.nq _ _ _ (by simp), (Bk.nq _ _ _ (by simp)).al _, by omega, by simp; omega, ((Bel.rf.al _).al _).al _⟩
  unfold hdv
  go_enter Try.func93, Try.ntmps93
  go_wp2_with (refine By.wpList_make_any _ rfl (.tmp 16) (.tmp 16) 22 rfl 3 i0 (.int .i64 0) 1 Try.underlying22 HI.out.1 HI.out.2.1 HI.out.2.2.1 .i64 .i64 _ _ p p rfl rfl (by first | rfl | exact pe | omega) (by first | rfl | exact pe | omega) (by omega) (by rw [HI.out.2.2.2]; omega) (by omega) ?_; rw [Pk.made_i64])
  go_loopw [20] (fun s20 wr => KRel L p (w.heap.size + 2) (hcs K C Lo G S) w s20 wr) (fun s20 _ => p - (intOf s20).toNat)
  case atStart => exact HB0.out
  case round =>
    clear HB0
    obtain ⟨k, wr, hwr, hk, rfl, hb, hh, hg, hsz, hbe⟩ := hrel
    subst hwr
    have HB := Lib.hid hb
    have HH := Lib.hid hh
    have HX := Lib.hid hbe
    rcases Nat.lt_or_ge k p with hlt | hge
    · obtain ⟨ad, rfl, hab, hac0⟩ := HZ.out.2 (by omega)
      have hac : ∀ j, j < n → wr.cell? (ad.add j) = some (.int .i64 (x.getD j 0)) := fun j hj => HX.out.kp (hac0 j hj)
      have n1 : (ad.add k).block ≠ w.heap.size + 2 := by rw [By.add_blk]; omega
      have n2 : (⟨ad.block, ad.off + (k + 1), none⟩ : Addr).block ≠ w.heap.size + 2 := by show ad.block ≠ _; omega
      have e2 : ad.add (k + 1) = ⟨ad.block, ad.off + (k + 1), none⟩ := by unfold Addr.add; simp
      have kn0 : (0 : Int) ≤ (k : Int) := by omega
      have kn1 : (k : Int) < (n : Int) := by omega
      have kn2 : (k : Int) ≤ (n : Int) := by omega
      have c1 := hac k (by omega)
      have c2 := hac (k + 1) (by omega)
      rw [e2] at c2
      have f1 := hb.fr k
      have hl1 := hb.lt
      have c3 : wr.cell? ⟨w.heap.size + 2, k, none⟩ = some (.int .i64 ((fl L p k).getD k 0 : Nat)) := by
        rw [hb.cell k]
        have := nums_at (L := fl L p k) (j := k) (by rw [fl_len HAL.out hk]; exact hlt)
        simpa using this
      obtain ⟨v3, hv3⟩ : ∃ v : Nat, (fl L p k).getD k 0 = v := ⟨_, rfl⟩
      rw [hv3] at c3
      obtain ⟨a1, a2, a4, a5, a3, a6⟩ := HAT.out k hlt
      obtain ⟨y, hy⟩ : ∃ y, L.getD k 0 = y := ⟨_, rfl⟩
      obtain ⟨z, hzz⟩ : ∃ z, x.getD k 0 = z := ⟨_, rfl⟩
      obtain ⟨z2, hz2⟩ : ∃ z, x.getD (k + 1) 0 = z := ⟨_, rfl⟩
      rw [hy] at a3 a6
      rw [hzz] at c1 a1 a2 a3
      rw [hz2] at c2 a4 a5 a3
      obtain ⟨d, hd⟩ : ∃ d, z2 - z = d := ⟨_, rfl⟩
      rw [hd] at a3
      have HF : Hid (∀ W, Calls Try.prog 46 #[.int .i64 d] W fun e w' => e = .returned (.int .u64 (y : Int)) ∧ W = w') := fun W => by rw [a3]; exact fold_any d (by omega) (by omega) W
      have HY := Lib.hid hy
      have ki : (k : Int) < (p : Int) := by omega
      have yb : (y : Int) < 4096 := by omega
      have w1 : IntKind.i64.wrap (y : Int) = (y : Int) := IntWalk.i64_in _ (by omega)
      have w2 : IntKind.i64.wrap d = d := IntWalk.i64_in _ (by omega)
      have w3 : IntKind.i64.wrap ((k : Int) + 1) = (k : Int) + 1 := IntWalk.i64_in _ (by omega)
      have k1 : (k : Int) + 1 < (n : Int) := by omega
      have k2 : ((k : Int) + 1).toNat = k + 1 := by omega
      have k3 : (0 : Int) ≤ (k : Int) + 1 := by omega
      have HST : Hid (Bk (wr.setCell ⟨w.heap.size + 2, k, none⟩ (.int .i64 (y : Int))) (w.heap.size + 2) 3 (nums (fl L p (k + 1))).toArray) := by
        have h4 := hb.st k (.int .i64 (y : Int))
        rw [nums_set, ← hy, fl_set HAL.out hlt] at h4
        rw [← hy]
        exact h4
      clear hv3 e2 hb hh hbe hac hab hac0 hy hzz hz2 a3
      go_wp2_with fail
      go_region_held3 (fun w' => w'.cell? ⟨ad.block, ad.off + (k + 1), none⟩ = some (.int .i64 z2) ∧ w'.cell? (ad.add k) = some (.int .i64 z))
        ((refine ⟨?_, ?_⟩) <;> (repeat (first | exact c1 | exact c2 | (with_reducible refine kp_drwN ?_ _) | (with_reducible refine kp_drw ?_) | (with_reducible refine kp_far ?_ n1 _) | (with_reducible refine kp_far ?_ n2 _))))
        (first | (go_at_call 46; refine (HF.out _).mono ?_; rintro e w' ⟨rfl, rfl⟩))
      all_goals
        go_wp2
        go_roundw
        case rel => exact ⟨k + 1, _, rfl, by omega, by go_num, by first | exact HST.out | exact HST.out.drw | exact HST.out.drwN _, by first | exact HH.out.far (by simp) _ | exact (HH.out.far (by simp) _).drw | exact (HH.out.far (by simp) _).drwN _, hg, by simpa [World.setCell] using hsz, by first | exact HX.out.st (by show w.heap.size ≤ w.heap.size + 2; omega) _ | exact (HX.out.st (by show w.heap.size ≤ w.heap.size + 2; omega) _).drw | exact (HX.out.st (by show w.heap.size ≤ w.heap.size + 2; omega) _).drwN _⟩
        case measure => simp [intOf]; omega
    · obtain rfl : k = p := by omega
      have hbb := hb
      rw [fl_end HAL.out] at hbb
      have HBB := Lib.hid hbb
      obtain ⟨ad, rfl, hab, hac⟩ := (HZ.out.bel hbe).2 (by omega)
      have c1 := hac 0 (by omega)
      rw [HZ0.out] at c1
      have HC1 := Lib.hid c1
      clear hb hh hbe hbb hac hab c1
      go_wp2_with (first
        | (go_at_call 85; refine (HWD.out _ _ HBB.out).mono ?_; rintro e w4 ⟨rfl, rfl⟩)
        | (go_at_call 84; refine (HPK.out _ _ HBB.out).mono ?_; rintro e w5 ⟨h5, rfl, hr5, _, hb5⟩; have HR5 := Lib.hid hr5; have HB5 := Lib.hid hb5; have hc5 := hb5.kp HC1.out; rw [add_zero] at hc5; clear hr5 hb5)
        | (go_at_call 30; refine (HPN.out _).mono ?_; rintro e w6 ⟨h6, rfl, ho6, hb6⟩; have HO6 := Lib.hid ho6; have HB6 := Lib.hid hb6; clear ho6 hb6)
        | (at_builtin; refine wpList_append_rd rfl (.tmp 50) (.tmp 53) 23 rfl w5.heap.size 5 j0 (.int .u8 0) Try.underlying23 HJ.out.1 HJ.out.2.1 HJ.out.2.2.1 HJ.out.2.2.2 rfl (.slice (some ⟨h6, 0, none⟩) k0 10) k0 (bys (bytesOf z0)) rfl (HO6.out.alloc _) (some ⟨w6.heap.size, 0, none⟩) 1 1 [q] rfl (Pk.rd_bk (L := [q]) (Bk.nq _ _ _ rfl) (by intro v hv; simp at hv; omega) 1 rfl) (fun h => by cases h) (by omega) (by have := HB6.out.size; simp; omega) ?_; intro u7 w7 ho7 hg7; have HO7 := Lib.hid ho7; have HB7 : Hid (Bel w5 w7) := (Below.grown (HB6.out.al _).bl hg7 (by have := HB6.out.size; simp; omega) (fun b e => (HO6.out.lt b e).1)); clear ho7 hg7)
        | (at_builtin; refine wpList_append_rd rfl (.tmp 55) (.tmp 56) 23 rfl w5.heap.size 5 j0 (.int .u8 0) Try.underlying23 HJ.out.1 HJ.out.2.1 HJ.out.2.2.1 HJ.out.2.2.2 rfl u7 (k0 + 1) (bys (bytesOf z0) ++ bys [q]) rfl HO7.out (some ⟨h5, 0, none⟩) N N (packed L q) rfl (HR5.out.bel HB7.out) (fun h => by cases h) (by omega) HB7.out.size ?_; intro u8 w8 ho8 hg8; have HO8 := Lib.hid ho8; have HB8 : Hid (Bel w5 w8) := (Below.grown HB7.out.bl hg8 HB7.out.size (fun b e => (HO7.out.lt b e).1)); clear ho8 hg8))
      go_ret2
      have h8 := HO8.out
      rw [← bys_app, ← bys_app, ← HDD.out] at h8
      have hlen : (dd x).length = k0 + 1 + N := by rw [HDD.out]; simp [HKK.out, HPL.out]; omega
      obtain ⟨g, c8, rfl, _, _, _, hr8⟩ := own_rd h8 HDB.out hlen (by omega)
      exact ⟨some ⟨g, 0, none⟩, k0 + 1 + N, c8, rfl, hlen, hr8, fun e => (by cases e), HX.out.tr (HB5.out.tr HB8.out)⟩
end Go.Proofs.Ytaplbkfmedofcaa.Sg
