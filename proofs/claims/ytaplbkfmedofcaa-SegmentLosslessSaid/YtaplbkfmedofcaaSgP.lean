/- packed's encode. -/
import Derived.Test.YtaplbkfmedofcaaSgK
namespace Go.Proofs.Ytaplbkfmedofcaa.Sg
open Go.ChangeShapes Go.WideShapes Go.RowKit Wo Bm By Cd Pk
open Wi (Zi)
set_option linter.unusedVariables false
/-- a new row of n numbers, k of them laid -/
def fl (L : List Nat) (n k : Nat) : List Nat := L.take k ++ List.replicate (n - k) 0
theorem fl_zero (L : List Nat) (n : Nat) : fl L n 0 = List.replicate n 0 := by simp [fl]
theorem fl_len {L : List Nat} {n k : Nat} (h : L.length = n) (hk : k ≤ n) : (fl L n k).length = n := by simp [fl]; omega
theorem fl_end {L : List Nat} {n : Nat} (h : L.length = n) : fl L n n = L := by subst h; simp [fl]
theorem fl_set {L : List Nat} {n k : Nat} (h : L.length = n) (hk : k < n) : (fl L n k).set k (L.getD k 0) = fl L n (k + 1) := by
  unfold fl
  rw [List.set_append_right _ _ (by simp; omega)]
  have e1 : (L.take k).length = k := by simp; omega
  rw [e1, Nat.sub_self]
  obtain ⟨q, hq⟩ : ∃ q, n - k = q + 1 := ⟨n - k - 1, by omega⟩
  rw [hq, show n - (k + 1) = q by omega, List.replicate_succ, List.set_cons_zero, List.take_succ_eq_append_getElem (by omega), List.append_assoc]
  simp [List.getD_eq_getElem?_getD, h, hk]
def hcs (K C L G S : Int) : Array Value := #[.int .i64 K, .int .i64 C, .int .i64 L, .int .i64 G, .int .i64 S]
def KRel (L : List Nat) (n g : Nat) (hd : Array Value) (w : World) (s : Value) (wr : World) : Prop := ∃ (k : Nat) (V : World), V = wr ∧ k ≤ n ∧ s = .int .i64 (k : Int) ∧ Bk wr g 3 (nums (fl L n k)).toArray ∧ Bk wr (w.heap.size + 1) 34 hd ∧ w.heap.size + 2 ≤ g ∧ w.heap.size < wr.heap.size ∧ Bel w wr
set_option maxHeartbeats 4000000 in
set_option maxRecDepth 100000 in
theorem kenc1 (A : Option Addr) (c n N : Nat) (x : List Int) (hv : Vx x) (hn : x.length = n) (hN : (pd x).length = N) (K C S : Int) (w : World) (hz : Zi w A n x) :
    Calls Try.prog 81 #[.agg #[], .slice A n c, hdv K C (mn x) (mx x) S] w fun e w' => ∃ h : Nat, e = .returned (.tuple #[.slice (some ⟨h, 0, none⟩) N N, .bool true]) ∧ Rd w' (some ⟨h, 0, none⟩) N (pd x) ∧ Bel w w' := by
  obtain ⟨i0, hi0, hz0, hz1, hz2⟩ := info_parts Pk.info_int
  have HI := Lib.hid (And.intro hi0 (And.intro hz0 (And.intro hz1 hz2)))
  have HZ := Lib.hid hz
  have hn1 : 1 ≤ n ∧ n ≤ 64 := by have := hv.1; have := hv.2.1; omega
  have hal : (ab x).length = n := by rw [ab_len, hn]
  have hD := dD_int hv.1
  have hDl := dD_le hv.2.2 hv.1
  have hm := mn_in hv.2.2 hv.1
  have HAT : Hid (∀ i, i < n → -1000 ≤ x.getD i 0 ∧ x.getD i 0 ≤ 1000 ∧ (((ab x).getD i 0 : Nat) : Int) = x.getD i 0 - mn x) := fun i hi => ⟨(hv.2.2.at i).1, (hv.2.2.at i).2, ab_at (by omega)⟩
  have HPK : Hid (∀ (g : Nat) (W : World), Bk W g 3 (nums (ab x)).toArray → Calls Try.prog 84 #[.slice (some ⟨g, 0, none⟩) n n, .int .i64 (wd [dD x] : Int)] W (PackOk (ab x) (wd [dD x]) N W)) := fun g W hb => by
    have h1 := ri_bk hb n hal
    have h2 := pack_any (some ⟨g, 0, none⟩) n (ab x) (wd [dD x]) N (by have := (pd_len hv).1; rw [ab_len]; omega) (by omega) (by have := pw_le hv.2.2 hv.1; omega) (fun m hm => by have := ab_le hv.1 m hm; omega) W (by rw [hal]; exact h1)
    rw [hal] at h2
    refine h2.mono ?_
    rintro e w' (⟨_, h⟩ | ⟨⟨v, hv1, hv2⟩, _⟩)
    · exact h
    · have := ab_fits hv.2.2 hv.1 v hv1; omega
  have HPD : Hid (packed (ab x) (wd [dD x]) = pd x) := rfl
  obtain ⟨m, hmm⟩ : ∃ m, mn x = m := ⟨_, rfl⟩
  obtain ⟨M, hMM⟩ : ∃ m, mx x = m := ⟨_, rfl⟩
  rw [hmm] at hD hm HAT ⊢
  rw [hMM] at hD ⊢
  obtain ⟨L, hL⟩ : ∃ L, ab x = L := ⟨_, rfl⟩
  rw [hL] at hal HAT HPK HPD
  obtain ⟨D, hDD⟩ : ∃ D, dD x = D := ⟨_, rfl⟩
  rw [hDD] at hD hDl HPK HPD
  have HW : Hid (∀ W, Calls Try.prog 82 #[.agg #[], hdv K C m M S] W fun e w' => e = .returned (.int .i64 (wd [D] : Int)) ∧ Bel W w') := fun W => (pwidth_ok K C m M S (D : Int) (by rw [← hD]; exact IntWalk.wrap64_in _ (by omega)) W).mono fun e w' ⟨r, h1, h2, h3⟩ => ⟨by rw [h1, h2.2.2 D (by omega) rfl], h3⟩
  obtain ⟨q, hq⟩ : ∃ q, wd [D] = q := ⟨_, rfl⟩
  rw [hq] at HPK HPD HW
  have HAL := Lib.hid hal
  have ni : (n : Int) ≤ 64 := by omega
  clear hi0 hz0 hz1 hz2 hz hmm hMM hL hDD hq hN hal
  have HB0 : Hid (KRel L n (w.heap.size + 2) (hcs K C m M S) w (.int .i64 0) (((w.alloc (.cells #[] 100)).alloc (.cells (hcs K C m M S) 34)).alloc (.cells (nums (List.replicate n 0)).toArray 3))) :=
    ⟨0, _, rfl, by omega, rfl, by rw [fl_zero]; exact Bk.nq _ _ _ (by simp), (Bk.nq _ _ _ (by simp)).al _, by omega, by simp; omega, ((Bel.rf.al _).al _).al _⟩
  unfold hdv at HW ⊢
  go_enter Try.func81, Try.ntmps81
  go_wp2_with (refine By.wpList_make_any _ rfl (.tmp 14) (.tmp 14) 22 rfl 3 i0 (.int .i64 0) 1 Try.underlying22 HI.out.1 HI.out.2.1 HI.out.2.2.1 .i64 .i64 _ _ n n rfl rfl rfl rfl (by omega) (by rw [HI.out.2.2.2]; omega) (by omega) ?_; rw [Pk.made_i64])
  go_loopw [18] (fun s18 wr => KRel L n (w.heap.size + 2) (hcs K C m M S) w s18 wr) (fun s18 _ => n - (intOf s18).toNat)
  case atStart => exact HB0.out
  case round =>
    clear HB0
    obtain ⟨k, wr, hwr, hk, rfl, hb, hh, hg, hsz, hbe⟩ := hrel
    subst hwr
    have HB := Lib.hid hb
    have HH := Lib.hid hh
    have HX := Lib.hid hbe
    rcases Nat.lt_or_ge k n with hlt | hge
    · obtain ⟨ad, rfl, hab, hac⟩ := (HZ.out.bel hbe).2 (by omega)
      have c1 := hac k hlt
      have c2 : wr.cell? ⟨w.heap.size + 1, 2, none⟩ = some (.int .i64 m) := hh.cell 2
      have f1 := hb.fr k
      have hl1 := hb.lt
      have c3 : wr.cell? ⟨w.heap.size + 2, k, none⟩ = some (.int .i64 ((fl L n k).getD k 0 : Nat)) := by
        rw [hb.cell k]
        have := nums_at (L := fl L n k) (j := k) (by rw [fl_len HAL.out hk]; exact hlt)
        simpa using this
      obtain ⟨a1, a2, a3⟩ := HAT.out k hlt
      obtain ⟨y, hy⟩ : ∃ y, L.getD k 0 = y := ⟨_, rfl⟩
      obtain ⟨z, hzz⟩ : ∃ z, x.getD k 0 = z := ⟨_, rfl⟩
      rw [hy] at a3
      rw [hzz] at c1 a1 a2 a3
      have e1 : z - m = (y : Int) := a3.symm
      have HY := Lib.hid hy
      have ki : (k : Int) < (n : Int) := by omega
      have HST : Hid (Bk (wr.setCell ⟨w.heap.size + 2, k, none⟩ (.int .i64 (y : Int))) (w.heap.size + 2) 3 (nums (fl L n (k + 1))).toArray) := by
        have h4 := hb.st k (.int .i64 (y : Int))
        rw [nums_set, ← hy, fl_set HAL.out hlt] at h4
        rw [← hy]
        exact h4
      clear hb hh hbe hac hab hy hzz a3
      go_wp2
      go_roundw
      case rel => exact ⟨k + 1, _, rfl, by omega, by go_num, HST.out, HH.out.far (by simp) _, hg, by simpa [World.setCell] using hsz, HX.out.st (by show w.heap.size ≤ w.heap.size + 2; omega) _⟩
      case measure => simp [intOf]; omega
    · obtain rfl : k = n := by omega
      have hbb := hb
      rw [fl_end HAL.out] at hbb
      have HBB := Lib.hid hbb
      have c0 : wr.cell? ⟨w.heap.size + 1, 0, none⟩ = some (.int .i64 K) := hh.cell 0
      have c1 : wr.cell? ⟨w.heap.size + 1, 1, none⟩ = some (.int .i64 C) := hh.cell 1
      have c2 : wr.cell? ⟨w.heap.size + 1, 2, none⟩ = some (.int .i64 m) := hh.cell 2
      have c3 : wr.cell? ⟨w.heap.size + 1, 3, none⟩ = some (.int .i64 M) := hh.cell 3
      have c4 : wr.cell? ⟨w.heap.size + 1, 4, none⟩ = some (.int .i64 S) := hh.cell 4
      clear hb hh hbe hbb
      go_wp2_with (first
        | (go_at_call 82; refine (HW.out _).mono ?_; rintro e w4 ⟨rfl, hb4⟩; have HB4 := Lib.hid hb4)
        | (go_at_call 84; refine (HPK.out _ _ (HBB.out.bel HB4.out)).mono ?_; rintro e w5 ⟨h, rfl, hr5, _, hb5⟩))
      go_ret2
      rw [HPD.out] at hr5
      exact ⟨h, rfl, hr5, HX.out.tr (HB4.out.tr hb5)⟩
end Go.Proofs.Ytaplbkfmedofcaa.Sg
