/- Merged: SgU SgK SgP SgQ SgD SgT SgE SgB SgS SgN SgM SgO SgX SgZ SgA. -/
import Derived.Test.YtpbnabibnkohdaaGreatDoorGc1
import Derived.Test.YtpbnabibnkohdaaGreatDoorGc2
import Derived.Test.YtpbnabibnkohdaaGreatDoorGc3
import Derived.Test.YtpbnabibnkohdaaGreatDoorGc4
import Derived.Test.YtpbnabibnkohdaaGreatDoorGc5
import Derived.Test.YtpbnabibnkohdaaGreatDoorGc6
import Derived.BigQuiet
import Derived.Deep.RegionHeld3
import Derived.Deep.RegionWith
import Derived.Laws.ResultCell
import Derived.Laws.BytesArg
import Derived.Laws.IdiomStrings
import Derived.Laws.Strings
import Derived.OpenShut
import Derived.Deep.AppendLies
namespace Go.Proofs.YtpbnabibnkohdaaGreatDoor.Sg
open Go.ChangeShapes Go.WideShapes Go.RowKit Wo Bm By Cd Pk
set_option linter.unusedVariables false
/-- what Unpack gives of any bytes -/
def SomeUnp (P : List Nat) (k : Int) (n : Nat) (w : World) (e : Ending) (w' : World) : Prop := ∃ (A : Option Addr) (m : Nat) (L : List Nat) (er : Int), e = .returned (.tuple #[.slice A m m, .int .i64 er]) ∧ Ri w' A m L ∧ m ≤ n ∧ (∀ v ∈ L, v < 4294967296) ∧
  (A = none → m = 0) ∧ (∀ ad, A = some ad → ∃ h, ad = ⟨h, 0, none⟩ ∧ w.heap.size ≤ h ∧ Bk w' h 3 (nums L).toArray) ∧ Bel w w' ∧
  (∀ (L0 : List Nat) (q : Nat), q ≤ 32 → L0.length = n → (∀ v ∈ L0, v < 2 ^ q) → k = (q : Int) → P = packed L0 q → er = 0 ∧ m = n ∧ L = L0)
theorem vals_lt (B : List Nat) (k n : Nat) (hk : k ≤ 32) : ∀ v ∈ vals B k n, v < 4294967296 := by
  intro v hv
  simp only [vals, List.mem_map] at hv
  obtain ⟨i, _, rfl⟩ := hv
  have h1 := val_lt (gB_lt B k i) k
  have h2 := Nat.pow_le_pow_right (n := 2) (by omega) hk
  have h3 : val (gB B k i) k < 2 ^ 32 := by omega
  exact h3
theorem unp_err (P : List Nat) (k : Int) (n : Nat) (w w' : World) (er : Int) (hb : Bel w w') (h : ∀ (L0 : List Nat) (q : Nat), q ≤ 32 → L0.length = n → (∀ v ∈ L0, v < 2 ^ q) → k = (q : Int) → P = packed L0 q → False) :
    SomeUnp P k n w (.returned (.tuple #[.slice none 0 0, .int .i64 er])) w' :=
  ⟨none, 0, [], er, rfl, ⟨rfl, fun h => by omega⟩, Nat.zero_le _, by simp, fun _ => rfl, fun ad e => (by cases e), hb, fun L0 q a b c d e => (h L0 q a b c d e).elim⟩
set_option maxHeartbeats 2000000 in
theorem unp_all (A : Option Addr) (c M n : Nat) (P : List Nat) (k : Int) (hk : -1 ≤ k) (hk2 : k ≤ 255) (hn : n ≤ 64) (hM : M ≤ 1000000) (w : World) (hr : Rd w A M P) :
    Calls Tryz.prog 208 #[.slice A M c, .int .i64 k, .int .i64 (n : Int)] w (SomeUnp P k n w) := by
  rcases (show k < 0 ∨ 32 < k ∨ (0 ≤ k ∧ k ≤ 32) by omega) with h | h | ⟨h0, h1⟩
  · clear hr
    go_enter Tryz.func208, Tryz.ntmps208
    go_wp2
    go_ret2
    exact unp_err _ _ _ _ _ _ Bel.rf (fun L0 q a _ _ d _ => by omega)
  · have q0 : ¬ k < 0 := by omega
    clear hr
    go_enter Tryz.func208, Tryz.ntmps208
    go_wp2
    go_ret2
    exact unp_err _ _ _ _ _ _ Bel.rf (fun L0 q a _ _ d _ => by omega)
  · obtain ⟨q, rfl⟩ := Int.eq_ofNat_of_zero_le h0
    have hq : q ≤ 32 := by omega
    obtain ⟨N, hN⟩ : ∃ N, (n * q + 7) / 8 = N := ⟨_, rfl⟩
    rcases Classical.em (M = N) with hMN | hMN
    · subst hMN
      refine (unpack_any A c P q n M hN (by omega) hq w hr).mono ?_
      rintro e w' (⟨hz, g, rfl, hri, ⟨hg, hbk⟩, hb⟩ | ⟨⟨K, hK1, hK2, hK3⟩, rfl, hb⟩)
      · refine ⟨_, _, vals P q n, 0, rfl, hri, Nat.le_refl _, vals_lt _ _ _ hq, fun e => (by cases e), fun ad e => ⟨g, (by cases e; rfl), hg, hbk⟩, hb, fun L0 q' a b cc d ee => ⟨rfl, rfl, ?_⟩⟩
        obtain rfl : q = q' := by omega
        subst ee
        rw [← b]
        exact vals_packed L0 q cc
      · refine unp_err _ _ _ _ _ _ hb (fun L0 q' a b cc d ee => ?_)
        obtain rfl : q = q' := by omega
        subst ee
        exact hK3 (packed_rest L0 q M (by rw [b]; exact hN) K (by rw [b]; exact hK1) hK2)
    · have HS : Hid (∀ W, Calls Tryz.prog 211 #[.int .i64 (n : Int), .int .i64 (q : Int)] W fun e w' => e = .returned (.int .i64 (N : Int)) ∧ W = w') := fun W => size_any n q N hN (by omega) hq W
      have HE : Hid (∀ (L0 : List Nat) (q' : Nat), q' ≤ 32 → L0.length = n → (∀ v ∈ L0, v < 2 ^ q') → (q : Int) = (q' : Int) → P = packed L0 q' → False) := fun L0 q' a b cc d ee => by
        obtain rfl : q = q' := by omega
        subst ee
        have h5 := hr.1
        rw [packed_len, b, hN] at h5
        exact hMN h5.symm
      have hNb : N ≤ 257 := by have := Nat.mul_le_mul hn hq; omega
      have ki : (q : Int) ≤ 32 := by omega
      have k0 : (0 : Int) ≤ (q : Int) := by omega
      have n0 : (0 : Int) ≤ (n : Int) := by omega
      have n1 : (n : Int) ≤ 64 := by omega
      clear hr hN h1 hk2 hk
      rcases Nat.lt_or_ge M N with hl | hl
      · have e1 : (M : Int) < (N : Int) := by omega
        clear hMN
        go_enter Tryz.func208, Tryz.ntmps208
        go_wp2_with (go_at_call 211; refine (HS.out _).mono ?_; rintro e w' ⟨rfl, rfl⟩)
        go_ret2
        exact unp_err _ _ _ _ _ _ Bel.rf HE.out
      · have e1 : ¬ (M : Int) < (N : Int) := by omega
        have e2 : (N : Int) < (M : Int) := by omega
        clear hMN
        go_enter Tryz.func208, Tryz.ntmps208
        go_wp2_with (go_at_call 211; refine (HS.out _).mono ?_; rintro e w' ⟨rfl, rfl⟩)
        go_ret2
        exact unp_err _ _ _ _ _ _ Bel.rf HE.out
theorem fits_bad (D : Int) (h : D < 0 ∨ 4294967296 ≤ D) (h2 : D ≤ 9223372036854775807) (w : World) : Calls Tryz.prog 213 #[.int .i64 D, .int .i64 32] w fun e w' => e = .returned (.bool false) ∧ w = w' := by
  rcases (show D < 0 ∨ (0 ≤ D ∧ 4294967296 ≤ D) by omega) with h1 | ⟨h1, h3⟩
  · have q : ¬ 0 ≤ D := by omega
    clear h
    go_enter Tryz.func213, Tryz.ntmps213
    go_wp2
    go_ret
    exact ⟨rfl, rfl⟩
  · have hz : (D / 4294967296 == 0) = false := by simp; omega
    clear h h3 h2
    go_enter Tryz.func213, Tryz.ntmps213
    go_wp2
    go_ret
    exact ⟨rfl, rfl⟩
/-- the width of one number of whatever size -/
def WdOf (D : Int) (r : Int) : Prop := -1 ≤ r ∧ r ≤ 32 ∧ ∀ d : Nat, d < 4294967296 → D = (d : Int) → r = (wd [d] : Int)
theorem width1 (D : Int) (h1 : -9223372036854775808 ≤ D) (h2 : D ≤ 9223372036854775807) (g : Nat) (w : World) (hb : Bk w g 3 #[.int .i64 D]) :
    Calls Tryz.prog 210 #[.slice (some ⟨g, 0, none⟩) 1 1] w fun e w' => (∃ r, e = .returned (.int .i64 r) ∧ WdOf D r) ∧ w = w' := by
  rcases (show (D < 0 ∨ 4294967296 ≤ D) ∨ (0 ≤ D ∧ D < 4294967296) by omega) with h | ⟨h3, h4⟩
  · have c0 : w.cell? ⟨g, 0, none⟩ = some (.int .i64 D) := hb.cell 0
    have HF := Lib.hid (fun W => fits_bad D h h2 W)
    have HW : Hid (WdOf D (-1)) := ⟨by omega, by omega, fun d a b => by omega⟩
    clear hb h
    go_enter Tryz.func210, Tryz.ntmps210
    go_wp2
    go_loop [3, 8] (fun s3 s8 => s3 = .int .i64 0 ∧ s8 = .int .i64 0) (fun _ _ => 0)
    case atStart => exact ⟨rfl, rfl⟩
    case round =>
      obtain ⟨rfl, rfl⟩ := hrel
      go_wp2_with (go_at_call 213; refine (HF.out _).mono ?_; rintro e w' ⟨rfl, rfl⟩)
      go_ret
      exact ⟨⟨-1, rfl, HW.out⟩, rfl⟩
  · obtain ⟨d, rfl⟩ := Int.eq_ofNat_of_zero_le h3
    have hr : Ri w (some ⟨g, 0, none⟩) 1 [d] := ri_bk (L := [d]) hb 1 rfl
    refine (width_any (some ⟨g, 0, none⟩) 1 [d] (by simp) (fun n hn => by simp at hn; omega) w hr).mono ?_
    rintro e w' ⟨rfl, rfl⟩
    have hle := wd_le [d] (fun n hn => by simp at hn; omega)
    refine ⟨⟨_, rfl, ⟨by omega, by omega, fun d' a b => ?_⟩⟩, rfl⟩
    obtain rfl : d = d' := by omega
    rfl
def hdv (K C L G S : Int) : Value := .agg #[.int .i64 K, .int .i64 C, .int .i64 L, .int .i64 G, .int .i64 S]
end Go.Proofs.YtpbnabibnkohdaaGreatDoor.Sg
namespace Go.Proofs.YtpbnabibnkohdaaGreatDoor.Sg
open Go.ChangeShapes Go.WideShapes Go.RowKit Wo Bm By Cd Pk Sr Wi
set_option linter.unusedVariables false
def knd : Array Value := #[.iface 214 (.agg #[]), .iface 215 (.agg #[]), .iface 216 (.agg #[])]
theorem kinds_ok (w : World) : Calls Tryz.prog 123 #[] w fun e w' => ∃ g, e = .returned (.slice (some ⟨g, 0, none⟩) 3 3) ∧ w.heap.size ≤ g ∧ Bk w' g 180 knd ∧ Bel w w' := by
  go_enter Tryz.func123, Tryz.ntmps123
  go_wp2
  go_ret
  exact ⟨_, rfl, Nat.le_refl _, Bk.nw _ _ _, Bel.rf.al _⟩
theorem kenc0 (A : Option Addr) (n c : Nat) (K C L G S : Int) (w : World) : Calls Tryz.prog 204 #[.agg #[], .slice A n c, hdv K C L G S] w fun e w' => e = .returned (.tuple #[.slice none 0 0, .bool (L == G)]) ∧ Bel w w' := by
  unfold hdv
  go_enter Tryz.func204, Tryz.ntmps204
  go_wp2
  go_quiet (fail)
  go_wp2
  go_ret2
  exact ⟨rfl, by repeat (first | exact Bel.rf | (with_reducible refine Bel.drwN ?_ _) | (with_reducible refine Bel.drw ?_) | (with_reducible refine Bel.al ?_ _))⟩
theorem kdec0 (A : Option Addr) (n c C : Nat) (K L G S : Int) (hC : C ≤ 64) (w : World) : Calls Tryz.prog 203 #[.agg #[], .slice A n c, hdv K (C : Int) L G S] w fun e w' =>
    ∃ a, e = .returned (.tuple #[.slice (some ⟨a, 0, none⟩) C C, .bool true]) ∧ w.heap.size ≤ a ∧ Zi w' (some ⟨a, 0, none⟩) C (List.replicate C L) ∧ Bel w w' := by
  have HR : Hid (∀ (g : Nat) (W : World), W.cell? ⟨g, 0, none⟩ = some (.int .i64 L) → _) := fun g W h => repeat_any g L C (by omega) W h
  unfold hdv
  go_enter Tryz.func203, Tryz.ntmps203
  go_wp2_with (go_at_call 66; refine (HR.out _ _ ((Bk.nq _ _ _ (by simp)).cell 0)).mono ?_; rintro e w1 ⟨a, rfl, ha, hz, hb⟩)
  go_ret2
  simp only [World.size_alloc] at ha
  exact ⟨a, rfl, by omega, hz, Bel.tr (a := w) (((Bel.rf.al _).al _).al _) hb⟩
theorem pwidth_ok (K C L G S D : Int) (h0 : wrap64 (G - L) = D) (w : World) :
    Calls Tryz.prog 207 #[.agg #[], hdv K C L G S] w fun e w' => ∃ r, e = .returned (.int .i64 r) ∧ WdOf D r ∧ Bel w w' := by
  have hD : -9223372036854775808 ≤ D ∧ D ≤ 9223372036854775807 := by rw [← h0]; unfold wrap64; omega
  have h0' : IntKind.i64.wrap (G - L) = D := (IntWalk.i64_left _).trans h0
  have HW : Hid (∀ (g : Nat) (W : World), Bk W g 3 #[.int .i64 D] → _) := fun g W h => width1 D hD.1 hD.2 g W h
  unfold hdv
  go_enter Tryz.func207, Tryz.ntmps207
  go_wp2_with (go_at_call 210; refine (HW.out _ _ (Bk.nq _ _ _ (by simp))).mono ?_; rintro e w1 ⟨⟨r, rfl, hr⟩, rfl⟩)
  go_ret
  exact ⟨r, rfl, hr, by repeat (first | exact Bel.rf | (with_reducible refine Bel.drwN ?_ _) | (with_reducible refine Bel.drw ?_) | (with_reducible refine Bel.al ?_ _))⟩
end Go.Proofs.YtpbnabibnkohdaaGreatDoor.Sg
namespace Go.Proofs.YtpbnabibnkohdaaGreatDoor.Sg
open Go.ChangeShapes Go.WideShapes Go.RowKit Wo Bm By Cd Pk
open Wi (Zi)
set_option linter.unusedVariables false
/-- a new row of n numbers, k of them laid -/
def fl (L : List Nat) (n k : Nat) : List Nat := L.take k ++ List.replicate (n - k) 0
theorem fl_zero (L : List Nat) (n : Nat) : fl L n 0 = List.replicate n 0 := by simp [fl]
theorem fl_len {L : List Nat} {n k : Nat} (h : L.length = n) (hk : k ≤ n) : (fl L n k).length = n := by simp [fl]; omega
theorem fl_end {L : List Nat} {n : Nat} (h : L.length = n) : fl L n n = L := by subst h; simp [fl]
theorem fl_set {L : List Nat} {n k : Nat} (h : L.length = n) (hk : k < n) : (fl L n k).set k (L.getD k 0) = fl L n (k + 1) := by
  unfold fl
  rw [List.set_append_right _ _ (by simp; omega)]
  have e1 : (L.take k).length = k := by simp; omega
  rw [e1, Nat.sub_self]
  obtain ⟨q, hq⟩ : ∃ q, n - k = q + 1 := ⟨n - k - 1, by omega⟩
  rw [hq, show n - (k + 1) = q by omega, List.replicate_succ, List.set_cons_zero, List.take_succ_eq_append_getElem (by omega), List.append_assoc]
  simp [List.getD_eq_getElem?_getD, h, hk]
def hcs (K C L G S : Int) : Array Value := #[.int .i64 K, .int .i64 C, .int .i64 L, .int .i64 G, .int .i64 S]
def KRel (L : List Nat) (n g : Nat) (hd : Array Value) (w : World) (s : Value) (wr : World) : Prop := ∃ (k : Nat) (V : World), V = wr ∧ k ≤ n ∧ s = .int .i64 (k : Int) ∧ Bk wr g 3 (nums (fl L n k)).toArray ∧ Bk wr (w.heap.size + 1) 145 hd ∧ w.heap.size + 2 ≤ g ∧ w.heap.size < wr.heap.size ∧ Bel w wr
set_option maxHeartbeats 4000000 in
set_option maxRecDepth 100000 in
theorem kenc1 (A : Option Addr) (c n N : Nat) (x : List Int) (hv : Vx x) (hn : x.length = n) (hN : (pd x).length = N) (K C S : Int) (w : World) (hz : Zi w A n x) :
    Calls Tryz.prog 206 #[.agg #[], .slice A n c, hdv K C (mn x) (mx x) S] w fun e w' => ∃ h : Nat, e = .returned (.tuple #[.slice (some ⟨h, 0, none⟩) N N, .bool true]) ∧ Rd w' (some ⟨h, 0, none⟩) N (pd x) ∧ Bel w w' := by
  obtain ⟨i0, hi0, hz0, hz1, hz2⟩ := info_parts Pk.info_int
  have HI := Lib.hid (And.intro hi0 (And.intro hz0 (And.intro hz1 hz2)))
  have HZ := Lib.hid hz
  have hn1 : 1 ≤ n ∧ n ≤ 64 := by have := hv.1; have := hv.2.1; omega
  have hal : (ab x).length = n := by rw [ab_len, hn]
  have hD := dD_int hv.1
  have hDl := dD_le hv.2.2 hv.1
  have hm := mn_in hv.2.2 hv.1
  have HAT : Hid (∀ i, i < n → -1000 ≤ x.getD i 0 ∧ x.getD i 0 ≤ 1000 ∧ (((ab x).getD i 0 : Nat) : Int) = x.getD i 0 - mn x) := fun i hi => ⟨(hv.2.2.at i).1, (hv.2.2.at i).2, ab_at (by omega)⟩
  have HPK : Hid (∀ (g : Nat) (W : World), Bk W g 3 (nums (ab x)).toArray → Calls Tryz.prog 209 #[.slice (some ⟨g, 0, none⟩) n n, .int .i64 (wd [dD x] : Int)] W (PackOk (ab x) (wd [dD x]) N W)) := fun g W hb => by
    have h1 := ri_bk hb n hal
    have h2 := pack_any (some ⟨g, 0, none⟩) n (ab x) (wd [dD x]) N (by have := (pd_len hv).1; rw [ab_len]; omega) (by omega) (by have := pw_le hv.2.2 hv.1; omega) (fun m hm => by have := ab_le hv.1 m hm; omega) W (by rw [hal]; exact h1)
    rw [hal] at h2
    refine h2.mono ?_
    rintro e w' (⟨_, h⟩ | ⟨⟨v, hv1, hv2⟩, _⟩)
    · exact h
    · have := ab_fits hv.2.2 hv.1 v hv1; omega
  have HPD : Hid (packed (ab x) (wd [dD x]) = pd x) := rfl
  obtain ⟨m, hmm⟩ : ∃ m, mn x = m := ⟨_, rfl⟩
  obtain ⟨M, hMM⟩ : ∃ m, mx x = m := ⟨_, rfl⟩
  rw [hmm] at hD hm HAT ⊢
  rw [hMM] at hD ⊢
  obtain ⟨L, hL⟩ : ∃ L, ab x = L := ⟨_, rfl⟩
  rw [hL] at hal HAT HPK HPD
  obtain ⟨D, hDD⟩ : ∃ D, dD x = D := ⟨_, rfl⟩
  rw [hDD] at hD hDl HPK HPD
  have HW : Hid (∀ W, Calls Tryz.prog 207 #[.agg #[], hdv K C m M S] W fun e w' => e = .returned (.int .i64 (wd [D] : Int)) ∧ Bel W w') := fun W => (pwidth_ok K C m M S (D : Int) (by rw [← hD]; exact IntWalk.wrap64_in _ (by omega)) W).mono fun e w' ⟨r, h1, h2, h3⟩ => ⟨by rw [h1, h2.2.2 D (by omega) rfl], h3⟩
  obtain ⟨q, hq⟩ : ∃ q, wd [D] = q := ⟨_, rfl⟩
  rw [hq] at HPK HPD HW
  have HAL := Lib.hid hal
  have ni : (n : Int) ≤ 64 := by omega
  clear hi0 hz0 hz1 hz2 hz hmm hMM hL hDD hq hN hal
  have HB0 : Hid (KRel L n (w.heap.size + 2) (hcs K C m M S) w (.int .i64 0) (((w.alloc (.cells #[] 215)).alloc (.cells (hcs K C m M S) 145)).alloc (.cells (nums (List.replicate n 0)).toArray 3))) :=
    ⟨0, _, rfl, by omega, rfl, by rw [fl_zero]; exact Bk.nq _ _ _ (by simp), (Bk.nq _ _ _ (by simp)).al _, by omega, by simp; omega, ((Bel.rf.al _).al _).al _⟩
  unfold hdv at HW ⊢
  go_enter Tryz.func206, Tryz.ntmps206
  go_wp2_with (refine By.wpList_make_any _ rfl (.tmp 14) (.tmp 14) 22 rfl 3 i0 (.int .i64 0) 1 Tryz.underlying22 HI.out.1 HI.out.2.1 HI.out.2.2.1 .i64 .i64 _ _ n n rfl rfl rfl rfl (by omega) (by rw [HI.out.2.2.2]; omega) (by omega) ?_; rw [Pk.made_i64])
  go_loopw [18] (fun s18 wr => KRel L n (w.heap.size + 2) (hcs K C m M S) w s18 wr) (fun s18 _ => n - (intOf s18).toNat)
  case atStart => exact HB0.out
  case round =>
    clear HB0
    obtain ⟨k, wr, hwr, hk, rfl, hb, hh, hg, hsz, hbe⟩ := hrel
    subst hwr
    have HB := Lib.hid hb
    have HH := Lib.hid hh
    have HX := Lib.hid hbe
    rcases Nat.lt_or_ge k n with hlt | hge
    · obtain ⟨ad, rfl, hab, hac⟩ := (HZ.out.bel hbe).2 (by omega)
      have c1 := hac k hlt
      have c2 : wr.cell? ⟨w.heap.size + 1, 2, none⟩ = some (.int .i64 m) := hh.cell 2
      have f1 := hb.fr k
      have hl1 := hb.lt
      have c3 : wr.cell? ⟨w.heap.size + 2, k, none⟩ = some (.int .i64 ((fl L n k).getD k 0 : Nat)) := by
        rw [hb.cell k]
        have := nums_at (L := fl L n k) (j := k) (by rw [fl_len HAL.out hk]; exact hlt)
        simpa using this
      obtain ⟨a1, a2, a3⟩ := HAT.out k hlt
      obtain ⟨y, hy⟩ : ∃ y, L.getD k 0 = y := ⟨_, rfl⟩
      obtain ⟨z, hzz⟩ : ∃ z, x.getD k 0 = z := ⟨_, rfl⟩
      rw [hy] at a3
      rw [hzz] at c1 a1 a2 a3
      have e1 : z - m = (y : Int) := a3.symm
      have HY := Lib.hid hy
      have ki : (k : Int) < (n : Int) := by omega
      have HST : Hid (Bk (wr.setCell ⟨w.heap.size + 2, k, none⟩ (.int .i64 (y : Int))) (w.heap.size + 2) 3 (nums (fl L n (k + 1))).toArray) := by
        have h4 := hb.st k (.int .i64 (y : Int))
        rw [nums_set, ← hy, fl_set HAL.out hlt] at h4
        rw [← hy]
        exact h4
      clear hb hh hbe hac hab hy hzz a3
      go_wp2
      go_roundw
      case rel => exact ⟨k + 1, _, rfl, by omega, by go_num, HST.out, HH.out.far (by simp) _, hg, by simpa [World.setCell] using hsz, HX.out.st (by show w.heap.size ≤ w.heap.size + 2; omega) _⟩
      case measure => simp [intOf]; omega
    · obtain rfl : k = n := by omega
      have hbb := hb
      rw [fl_end HAL.out] at hbb
      have HBB := Lib.hid hbb
      have c0 : wr.cell? ⟨w.heap.size + 1, 0, none⟩ = some (.int .i64 K) := hh.cell 0
      have c1 : wr.cell? ⟨w.heap.size + 1, 1, none⟩ = some (.int .i64 C) := hh.cell 1
      have c2 : wr.cell? ⟨w.heap.size + 1, 2, none⟩ = some (.int .i64 m) := hh.cell 2
      have c3 : wr.cell? ⟨w.heap.size + 1, 3, none⟩ = some (.int .i64 M) := hh.cell 3
      have c4 : wr.cell? ⟨w.heap.size + 1, 4, none⟩ = some (.int .i64 S) := hh.cell 4
      clear hb hh hbe hbb
      go_wp2_with (first
        | (go_at_call 207; refine (HW.out _).mono ?_; rintro e w4 ⟨rfl, hb4⟩; have HB4 := Lib.hid hb4)
        | (go_at_call 209; refine (HPK.out _ _ (HBB.out.bel HB4.out)).mono ?_; rintro e w5 ⟨h, rfl, hr5, _, hb5⟩))
      go_ret2
      rw [HPD.out] at hr5
      exact ⟨h, rfl, hr5, HX.out.tr (HB4.out.tr hb5)⟩
end Go.Proofs.YtpbnabibnkohdaaGreatDoor.Sg
namespace Go.Proofs.YtpbnabibnkohdaaGreatDoor.Sg
open Go.ChangeShapes Go.WideShapes Go.RowKit Wo Bm By Cd Pk
open Wi (Zi zi_bk)
open Sr (zs zs_at zs_len)
set_option linter.unusedVariables false
/-- what a kind reads of its data: samples, and whether there are some -/
def SomeKd (Q : List Int → Prop) (w : World) (e : Ending) (w' : World) : Prop := ∃ (A : Option Addr) (m c : Nat) (L : List Int) (b : Bool), e = .returned (.tuple #[.slice A m c, .bool b]) ∧ Zi w' A m L ∧ m ≤ 64 ∧ m ≤ c ∧ c ≤ maxLen ∧ (A = none → c = 0) ∧ (∀ ad, A = some ad → ∃ h, ad = ⟨h, 0, none⟩ ∧ w.heap.size ≤ h) ∧ Bel w w' ∧ (∀ x, Vx x → Q x → b = true ∧ L = x)
theorem getD_set {I : List Int} {k i : Nat} {y : Int} (hk : k < I.length) : (I.set k y).getD i 0 = if i = k then y else I.getD i 0 := by
  rw [List.getD_eq_getElem?_getD, List.getElem?_set, List.getD_eq_getElem?_getD]
  by_cases h : k = i
  · subst h; simp [hk]
  · rw [if_neg h, if_neg (fun e => h e.symm)]
theorem zs_set (L : List Int) (k : Nat) (y : Int) : (zs L).toArray.setIfInBounds k (.int .i64 y) = (zs (L.set k y)).toArray := by simp [zs, List.map_set]
theorem nums_zs (L : List Nat) : nums L = zs (L.map fun v : Nat => (v : Int)) := by simp [nums, zs]
theorem getD_ext {L x : List Int} (hl : L.length = x.length) (h : ∀ i, i < L.length → L.getD i 0 = x.getD i 0) : L = x := by
  apply List.ext_getElem hl
  intro i h1 h2
  have := h i h1
  simpa [List.getD_eq_getElem?_getD, h1, h2] using this
def DRel (L : List Nat) (Lo : Int) (m g : Nat) (hd : Array Value) (w : World) (s : Value) (wr : World) : Prop := ∃ (k : Nat) (I : List Int) (V : World), V = wr ∧ k ≤ m ∧ s = .int .i64 (k : Int) ∧ I.length = m ∧ (∀ i, i < k → I.getD i 0 = IntKind.i64.wrap ((L.getD i 0 : Nat) + Lo)) ∧ (∀ i, k ≤ i → i < m → I.getD i 0 = (L.getD i 0 : Nat)) ∧
  Bk wr g 3 (zs I).toArray ∧ Bk wr (w.heap.size + 1) 145 hd ∧ Bel w wr
theorem kdec1_q {P : List Nat} {n m : Nat} {Lo G D r er : Int} {L : List Nat} (hD : wrap64 (G - Lo) = D) (hr : WdOf D r)
    (hq : ∀ (L0 : List Nat) (q : Nat), q ≤ 32 → L0.length = n → (∀ v ∈ L0, v < 2 ^ q) → r = (q : Int) → P = packed L0 q → er = 0 ∧ m = n ∧ L = L0) {x : List Int} (hx : Vx x) (h : x.length = n ∧ Lo = mn x ∧ G = mx x ∧ P = pd x) : er = 0 ∧ m = n ∧ L = ab x := by
  obtain ⟨h1, rfl, rfl, h4⟩ := h
  have hd := dD_int hx.1
  have hdl := dD_le hx.2.2 hx.1
  have e : D = (dD x : Int) := by rw [← hD, ← hd]; exact IntWalk.wrap64_in _ (by omega)
  exact hq (ab x) (wd [dD x]) (by have := pw_le hx.2.2 hx.1; omega) (by rw [ab_len]; exact h1) (ab_fits hx.2.2 hx.1) (hr.2.2 _ (by omega) e) h4
theorem kdec1_x {x I : List Int} {L : List Nat} {m : Nat} {Lo : Int} (hx : Vx x) (hI : I.length = m) (hm : m = x.length) (hL : L = ab x) (hlo : Lo = mn x) (h : ∀ i, i < m → I.getD i 0 = IntKind.i64.wrap ((L.getD i 0 : Nat) + Lo)) : I = x := by
  subst hL hlo
  refine getD_ext (by omega) (fun i hi => ?_)
  rw [h i (by omega), ab_at (by omega), Int.sub_add_cancel]
  have := hx.2.2.at i
  exact IntWalk.i64_in _ (by omega)
set_option maxHeartbeats 4000000 in
set_option maxRecDepth 100000 in
theorem kdec1 (A : Option Addr) (c M n : Nat) (P : List Nat) (K Lo G S : Int) (hn : n ≤ 64) (hM : M ≤ 1000000) (w : World) (hr : Rd w A M P) :
    Calls Tryz.prog 205 #[.agg #[], .slice A M c, hdv K (n : Int) Lo G S] w (SomeKd (fun x => x.length = n ∧ Lo = mn x ∧ G = mx x ∧ P = pd x) w) := by
  obtain ⟨D, hD⟩ : ∃ D, wrap64 (G - Lo) = D := ⟨_, rfl⟩
  have HW : Hid (∀ W, _) := fun W => pwidth_ok K (n : Int) Lo G S D hD W
  have HU : Hid (∀ r W, WdOf D r → Bel w W → Calls Tryz.prog 208 #[.slice A M c, .int .i64 r, .int .i64 (n : Int)] W (SomeUnp P r n W)) := fun r W h hb => unp_all A c M n P r h.1 (by have := h.2.1; omega) hn hM W (hr.bel hb)
  have HDD := Lib.hid hD
  obtain ⟨W0, hW0⟩ : ∃ W0, (w.alloc (.cells #[] 215)).alloc (.cells (hcs K (n : Int) Lo G S) 145) = W0 := ⟨_, rfl⟩
  have HBW : Hid (Bel w W0) := by rw [← hW0]; exact (Bel.rf.al _).al _
  have hh : Bk W0 (w.heap.size + 1) 145 (hcs K (n : Int) Lo G S) := by rw [← hW0]; exact Bk.nq _ _ _ (by simp)
  have HH := Lib.hid hh
  have c0 : W0.cell? ⟨w.heap.size + 1, 0, none⟩ = some (.int .i64 K) := hh.cell 0
  have c1 : W0.cell? ⟨w.heap.size + 1, 1, none⟩ = some (.int .i64 (n : Int)) := hh.cell 1
  have c2 : W0.cell? ⟨w.heap.size + 1, 2, none⟩ = some (.int .i64 Lo) := hh.cell 2
  have c3 : W0.cell? ⟨w.heap.size + 1, 3, none⟩ = some (.int .i64 G) := hh.cell 3
  have c4 : W0.cell? ⟨w.heap.size + 1, 4, none⟩ = some (.int .i64 S) := hh.cell 4
  have KS : Hid (∀ W', Bel W0 W' → ((fun w' => w'.cell? ⟨w.heap.size + 1, 0, none⟩ = some (.int .i64 K) ∧ w'.cell? ⟨w.heap.size + 1, 1, none⟩ = some (.int .i64 (n : Int)) ∧ w'.cell? ⟨w.heap.size + 1, 2, none⟩ = some (.int .i64 Lo) ∧ w'.cell? ⟨w.heap.size + 1, 3, none⟩ = some (.int .i64 G) ∧ w'.cell? ⟨w.heap.size + 1, 4, none⟩ = some (.int .i64 S)) W')) := fun W' h => ⟨h.kp c0, h.kp c1, h.kp c2, h.kp c3, h.kp c4⟩
  have ni : (n : Int) ≤ 64 := by omega
  have hwz : W0.heap.size = w.heap.size + 2 := by rw [← hW0]; simp
  clear hr hD hh
  unfold hdv at HW ⊢
  unfold hcs at hW0
  go_enter Tryz.func205, Tryz.ntmps205
  go_wp2_with fail
  (try rw [hW0])
  clear hW0
  go_region_held3 (fun w' => w'.cell? ⟨w.heap.size + 1, 0, none⟩ = some (.int .i64 K) ∧ w'.cell? ⟨w.heap.size + 1, 1, none⟩ = some (.int .i64 (n : Int)) ∧ w'.cell? ⟨w.heap.size + 1, 2, none⟩ = some (.int .i64 Lo) ∧ w'.cell? ⟨w.heap.size + 1, 3, none⟩ = some (.int .i64 G) ∧ w'.cell? ⟨w.heap.size + 1, 4, none⟩ = some (.int .i64 S))
    (first
      | (refine KS.out _ ?_; (repeat (first | exact Bel.rf | exact HB5.out | exact HB4.out | (with_reducible refine Bel.drwN ?_ _) | (with_reducible refine Bel.drw ?_) | (with_reducible refine Bel.al ?_ _))); done))
    (first
      | (go_at_call 207; refine (HW.out _).mono ?_; rintro e w4 ⟨r, rfl, hr4, hb4⟩; have HB4 : Hid (Bel W0 w4) := (by first | exact hb4 | exact (Bel.rf.drw).tr hb4 | exact (Bel.rf.drwN _).tr hb4); have HR4 := Lib.hid hr4; clear hr4 hb4)
      | (go_at_call 208; refine (HU.out _ _ HR4.out (HBW.out.tr (by first | exact HB4.out | exact HB4.out.drw | exact HB4.out.drwN _))).mono ?_; rintro e w5 ⟨A5, m, L, er, rfl, hri, hm, hlt, hn0, hbk, hb5, hq⟩; have HB5 : Hid (Bel W0 w5) := (by first | exact HB4.out.tr hb5 | exact HB4.out.drw.tr hb5 | exact (HB4.out.drwN _).tr hb5); have HS4 : Hid (W0.heap.size ≤ w4.heap.size) := HB4.out.size; have HQ := Lib.hid (And.intro hri (And.intro hlt (And.intro hbk hq))); clear hb5 hri hlt hbk hq))
  all_goals
    obtain ⟨hri, hlt, hbk, hq⟩ := HQ.out
    have HP := Lib.hid (fun x hx h => kdec1_q (x := x) HDD.out HR4.out hq hx h)
    have HBF : Hid (Bel w w5) := HBW.out.tr HB5.out
    have HML : Hid (L.length = m) := hri.1
    rcases A5 with _ | ad
    · have hm0 : m = 0 := hn0 rfl
      subst hm0
      clear hri hlt hbk hq HQ hn0 c0 c1 c2 c3 c4
      go_wp2
      go_loopw [23] (fun s23 wr => ∃ V : World, V = wr ∧ s23 = .int .i64 0 ∧ Bel w wr) (fun _ _ => 0)
      case atStart => exact ⟨_, rfl, rfl, HBF.out⟩
      case round =>
        obtain ⟨wr, hwr, rfl, hb⟩ := hrel
        subst hwr
        have HB := Lib.hid hb
        clear hb
        go_wp2
        go_ret2
        exact ⟨none, 0, 0, [], _, rfl, ⟨rfl, fun h => by omega⟩, by omega, by omega, by unfold maxLen; omega, fun _ => rfl, fun ad e => (by cases e), HB.out, fun x hx h => (by have h1 := (HP.out x hx h).2.1; have h2 := hx.1; have h3 := h.1; omega)⟩
    · obtain ⟨g, rfl, hg, hbk⟩ := hbk ad rfl
      have hgz : w.heap.size + 2 ≤ g := by have := HS4.out; omega
      have HR0 : Hid (DRel L Lo m g (hcs K (n : Int) Lo G S) w (.int .i64 0) w5) :=
        ⟨0, L.map fun v : Nat => (v : Int), _, rfl, by omega, rfl, by simp [hri.1], fun i hi => by omega, fun i _ hi => (by have := hri.1; simp [List.getD_eq_getElem?_getD, show i < L.length by omega]), by rw [← nums_zs]; exact hbk, HH.out.bel HB5.out, HBF.out⟩
      have HLT := Lib.hid hlt
      clear hri hlt hbk hq HQ hn0 c0 c1 c2 c3 c4
      go_wp2
      go_loopw [23] (fun s23 wr => DRel L Lo m g (hcs K (n : Int) Lo G S) w s23 wr) (fun s23 _ => m - (intOf s23).toNat)
      case atStart => exact HR0.out
      case round =>
        clear HR0
        obtain ⟨k, I, wr, hwr, hk, rfl, hil, hlo, hup, hb, hh, hbe⟩ := hrel
        subst hwr
        have HB := Lib.hid hb
        have HH2 := Lib.hid hh
        have HX := Lib.hid hbe
        have HLO := Lib.hid hlo
        have HUP := Lib.hid hup
        have HIL := Lib.hid hil
        rcases Nat.lt_or_ge k m with hlt | hge
        · have c2 : wr.cell? ⟨w.heap.size + 1, 2, none⟩ = some (.int .i64 Lo) := hh.cell 2
          have f1 := hb.fr k
          have hl1 := hb.lt
          have c3 : wr.cell? ⟨g, k, none⟩ = some (.int .i64 (L.getD k 0 : Nat)) := by
            have h5 := (zi_bk hb m hil).at k hlt
            rw [hup k (Nat.le_refl _) hlt] at h5
            exact h5
          have hyl : L.getD k 0 < 4294967296 := by
            rw [List.getD_eq_getElem?_getD, List.getElem?_eq_getElem (by rw [HML.out]; exact hlt)]
            exact HLT.out _ (List.getElem_mem _)
          obtain ⟨y, hy⟩ : ∃ y, L.getD k 0 = y := ⟨_, rfl⟩
          rw [hy] at c3 hyl
          obtain ⟨z, hz⟩ : ∃ z, IntKind.i64.wrap ((y : Int) + Lo) = z := ⟨_, rfl⟩
          have hz2 : wrap64 ((y : Int) + Lo) = z := (IntWalk.i64_left _).symm.trans hz
          have HYZ := Lib.hid (And.intro hy hz)
          have ki : (k : Int) < (m : Int) := by omega
          have HST : Hid (Bk (wr.setCell ⟨g, k, none⟩ (.int .i64 z)) g 3 (zs (I.set k z)).toArray) := by
            have h4 := hb.st k (.int .i64 z)
            rw [zs_set] at h4
            exact h4
          clear hb hh hbe hlo hup hil hy
          go_wp2
          go_region
          all_goals
            go_wp2
            go_roundw
            case rel =>
              refine ⟨k + 1, I.set k z, _, rfl, by omega, by go_num, by rw [List.length_set]; exact HIL.out, fun i hi => ?_, fun i hi1 hi2 => ?_, ?_, ?_, ?_⟩
              · rw [getD_set (by rw [HIL.out]; exact hlt)]
                split
                · rename_i hik
                  subst hik
                  rw [HYZ.out.1, HYZ.out.2]
                · exact HLO.out i (by omega)
              · rw [getD_set (by rw [HIL.out]; exact hlt), if_neg (by omega)]
                exact HUP.out i (by omega) hi2
              · first | exact HST.out | exact HST.out.drw | exact HST.out.drwN _
              · first | exact HH2.out.far (by show g ≠ _; omega) _ | exact (HH2.out.far (by show g ≠ _; omega) _).drw | exact (HH2.out.far (by show g ≠ _; omega) _).drwN _ | exact HH2.out.far (by show _ ≠ g; omega) _ | exact (HH2.out.far (by show _ ≠ g; omega) _).drw | exact (HH2.out.far (by show _ ≠ g; omega) _).drwN _
              · first | exact HX.out.st (by show _ ≤ g; omega) _ | exact (HX.out.st (by show _ ≤ g; omega) _).drw | exact (HX.out.st (by show _ ≤ g; omega) _).drwN _
            case measure => simp [intOf]; omega
        · obtain rfl : k = m := by omega
          clear hb hh hbe hlo hup hil
          go_wp2
          go_ret2
          exact ⟨some ⟨g, 0, none⟩, k, k, I, _, rfl, zi_bk HB.out k HIL.out, by omega, by omega, by unfold maxLen; omega, fun e => (by cases e), fun ad e => ⟨g, (by cases e; rfl), by omega⟩, HX.out, fun x hx h => (by
            obtain ⟨h1, h2, h3⟩ := HP.out x hx h
            exact ⟨by simp [h1], kdec1_x hx HIL.out (by omega) h3 h.2.1 HLO.out⟩)⟩
end Go.Proofs.YtpbnabibnkohdaaGreatDoor.Sg
namespace Go.Proofs.YtpbnabibnkohdaaGreatDoor.Sg
open Go.ChangeShapes Go.WideShapes Go.RowKit Wo Bm By Cd Pk
open Wi (Zi zi_bk)
set_option linter.unusedVariables false
theorem add_zero (ad : Addr) : ad.add 0 = ad := by unfold Addr.add; simp
theorem kp_far {w : World} {p q : Addr} {v : Value} (h : w.cell? q = some v) (hne : q.block ≠ p.block) (u : Value) : (w.setCell p u).cell? q = some v :=
  (World.cell?_setCell_other _ _ _ _ (fun e => hne (by rw [e]))).trans h
theorem putn (n : Int) (h : In64 n) (k : Nat) (hk : (bytesOf n).length = k) (w : World) : Calls Tryz.prog 97 #[.slice none 0 0, .int .i64 n] w fun e w' => ∃ g : Nat, e = .returned (.slice (some ⟨g, 0, none⟩) k 10) ∧ w'.ownsRow w.heap.size 5 1 (.slice (some ⟨g, 0, none⟩) k 10) k (bys (bytesOf n)) ∧ Bel w w' := by
  have := put_any none 0 [] n h.1 h.2 (by simp) w (Rd.nil w none)
  refine this.mono ?_
  rintro e w' ⟨g, rfl, ho, hb⟩
  simp only [List.length_nil, Nat.zero_add, List.nil_append, hk] at ho ⊢
  exact ⟨g, rfl, ho, hb⟩
/-- what a kind keeps of samples -/
def SomeKe (D : List Nat) (w : World) (e : Ending) (w' : World) : Prop := ∃ (A : Option Addr) (N c : Nat), e = .returned (.tuple #[.slice A N c, .bool true]) ∧ D.length = N ∧ Rd w' A N D ∧ (A = none → c = 0) ∧ Bel w w'
theorem own_rd {w : World} {base n : Nat} {v : Value} {L : List Nat} (h : w.ownsRow base 5 1 v n (bys L)) (hl : ∀ c ∈ L, c < 256) (hn : L.length = n) (h0 : 0 < n) : ∃ g c, v = .slice (some ⟨g, 0, none⟩) n c ∧ n ≤ c ∧ c ≤ maxLen ∧ base ≤ g ∧ Rd w (some ⟨g, 0, none⟩) n L := by
  rcases h.2 with ⟨_, h9⟩ | ⟨g, cap, cur, rfl, hb, hg, hc, hm, _⟩
  · omega
  · exact ⟨g, cap, rfl, hc, hm, hb, Rd.own h hl hn⟩
set_option maxHeartbeats 8000000 in
set_option maxRecDepth 100000 in
theorem kenc2 (A : Option Addr) (c n : Nat) (x : List Int) (hv : Vx x) (hn : x.length = n) (K C Lo G S : Int) (w : World) (hz : Zi w A n x) :
    Calls Tryz.prog 217 #[.agg #[], .slice A n c, hdv K C Lo G S] w (SomeKe (dd x) w) := by
  obtain ⟨i0, hi0, hz0, hz1, hz2⟩ := info_parts Pk.info_int
  have HI := Lib.hid (And.intro hi0 (And.intro hz0 (And.intro hz1 hz2)))
  clear hi0 hz0 hz1 hz2
  obtain ⟨j0, hi0, hz0, hz1, hz2⟩ := info_parts info_u8
  have HJ := Lib.hid (And.intro hi0 (And.intro hz0 (And.intro hz1 hz2)))
  clear hi0 hz0 hz1 hz2
  have HZ := Lib.hid hz
  have hn1 : 1 ≤ n ∧ n ≤ 64 := by have := hv.1; have := hv.2.1; omega
  obtain ⟨p, hp⟩ : ∃ p, n - 1 = p := ⟨_, rfl⟩
  have hal : (stp x).length = p := by rw [stp_len, hn, hp]
  have HAT : Hid (∀ i, i < p → -1000 ≤ x.getD i 0 ∧ x.getD i 0 ≤ 1000 ∧ -1000 ≤ x.getD (i + 1) 0 ∧ x.getD (i + 1) 0 ≤ 1000 ∧ (stp x).getD i 0 = fld (x.getD (i + 1) 0 - x.getD i 0) ∧ (stp x).getD i 0 < 4096) := fun i hi => ⟨(hv.2.2.at i).1, (hv.2.2.at i).2, (hv.2.2.at (i + 1)).1, (hv.2.2.at (i + 1)).2, stp_at (by omega), by
    have hi2 : i < (stp x).length := by omega
    rw [List.getD_eq_getElem?_getD, List.getElem?_eq_getElem hi2]; exact stp_lt hv.2.2 _ (List.getElem_mem hi2)⟩
  have h0 := hv.2.2.at 0
  have HWD : Hid (∀ (g : Nat) (W : World), Bk W g 3 (nums (stp x)).toArray → Calls Tryz.prog 210 #[.slice (some ⟨g, 0, none⟩) p p] W fun e w' => e = .returned (.int .i64 (wd (stp x) : Int)) ∧ W = w') := fun g W hb => by
    have h2 := width_any (some ⟨g, 0, none⟩) p (stp x) (by omega) (fun m hm => by have := stp_lt hv.2.2 m hm; omega) W (by rw [hal]; exact ri_bk hb p hal)
    rw [hal] at h2
    exact h2
  obtain ⟨N, hN⟩ : ∃ N, ((stp x).length * wd (stp x) + 7) / 8 = N := ⟨_, rfl⟩
  have HPK : Hid (∀ (g : Nat) (W : World), Bk W g 3 (nums (stp x)).toArray → Calls Tryz.prog 209 #[.slice (some ⟨g, 0, none⟩) p p, .int .i64 (wd (stp x) : Int)] W (PackOk (stp x) (wd (stp x)) N W)) := fun g W hb => by
    have h1 := ri_bk hb p hal
    have h2 := pack_any (some ⟨g, 0, none⟩) p (stp x) (wd (stp x)) N hN (by omega) (by have := dw_le hv.2.2; omega) (fun m hm => by have := stp_lt hv.2.2 m hm; omega) W (by rw [hal]; exact h1)
    rw [hal] at h2
    refine h2.mono ?_
    rintro e w' (⟨_, h⟩ | ⟨⟨v, hv1, hv2⟩, _⟩)
    · exact h
    · have := stp_fits hv.2.2 v hv1; omega
  have hNb : N ≤ 96 := by have := dw_le hv.2.2; have := Nat.mul_le_mul (show (stp x).length ≤ 63 by omega) this; omega
  have HDD : Hid (dd x = bytesOf (x.getD 0 0) ++ [wd (stp x)] ++ packed (stp x) (wd (stp x))) := by show dd x = _; simp [dd]
  have HDL := Lib.hid (dd_len hv)
  have HDB := Lib.hid (dd_byte hv)
  have hql := dw_le hv.2.2
  obtain ⟨L, hL⟩ : ∃ L, stp x = L := ⟨_, rfl⟩
  rw [hL] at hal HAT HPK HWD HDD hql hN
  obtain ⟨q, hq⟩ : ∃ q, wd L = q := ⟨_, rfl⟩
  rw [hq] at HPK HWD HDD hql hN
  have HPL : Hid ((packed L q).length = N) := (packed_len L q).trans hN
  obtain ⟨z0, hz0⟩ : ∃ z, x.getD 0 0 = z := ⟨_, rfl⟩
  rw [hz0] at h0 HDD
  obtain ⟨k0, hk0⟩ : ∃ k, (bytesOf z0).length = k := ⟨_, rfl⟩
  have hk10 := bytesOf_len z0
  rw [hk0] at hk10
  have HPN := Lib.hid (fun W => putn z0 (by unfold In64; omega) k0 hk0 W)
  have HKK := Lib.hid hk0
  have HZ0 := Lib.hid hz0
  have HAL := Lib.hid hal
  have ni : (n : Int) ≤ 64 := by omega
  have ni1 : (1 : Int) ≤ (n : Int) := by omega
  have pe : (n : Int) - 1 = (p : Int) := by omega
  have pi : (p : Int) ≤ 63 := by omega
  have q256 : (q : Int) % 256 = (q : Int) := by omega
  have qb : (q : Int) ≤ 12 := by omega
  clear hz hL hq hN hal hk0 hz0
  have HB0 : Hid (KRel L p (w.heap.size + 2) (hcs K C Lo G S) w (.int .i64 0) (((w.alloc (.cells #[] 216)).alloc (.cells (hcs K C Lo G S) 145)).alloc (.cells (nums (List.replicate p 0)).toArray 3))) :=
    ⟨0, _, rfl, by omega, rfl, by rw [fl_zero]; exact Bk.nq _ _ _ (by simp), (Bk.nq _ _ _ (by simp)).al _, by omega, by simp; omega, ((Bel.rf.al _).al _).al _⟩
  unfold hdv
  go_enter Tryz.func217, Tryz.ntmps217
  go_wp2_with (refine By.wpList_make_any _ rfl (.tmp 16) (.tmp 16) 22 rfl 3 i0 (.int .i64 0) 1 Tryz.underlying22 HI.out.1 HI.out.2.1 HI.out.2.2.1 .i64 .i64 _ _ p p rfl rfl (by first | rfl | exact pe | omega) (by first | rfl | exact pe | omega) (by omega) (by rw [HI.out.2.2.2]; omega) (by omega) ?_; rw [Pk.made_i64])
  go_loopw [20] (fun s20 wr => KRel L p (w.heap.size + 2) (hcs K C Lo G S) w s20 wr) (fun s20 _ => p - (intOf s20).toNat)
  case atStart => exact HB0.out
  case round =>
    clear HB0
    obtain ⟨k, wr, hwr, hk, rfl, hb, hh, hg, hsz, hbe⟩ := hrel
    subst hwr
    have HB := Lib.hid hb
    have HH := Lib.hid hh
    have HX := Lib.hid hbe
    rcases Nat.lt_or_ge k p with hlt | hge
    · obtain ⟨ad, rfl, hab, hac0⟩ := HZ.out.2 (by omega)
      have hac : ∀ j, j < n → wr.cell? (ad.add j) = some (.int .i64 (x.getD j 0)) := fun j hj => HX.out.kp (hac0 j hj)
      have n1 : (ad.add k).block ≠ w.heap.size + 2 := by rw [By.add_blk]; omega
      have n2 : (⟨ad.block, ad.off + (k + 1), none⟩ : Addr).block ≠ w.heap.size + 2 := by show ad.block ≠ _; omega
      have e2 : ad.add (k + 1) = ⟨ad.block, ad.off + (k + 1), none⟩ := by unfold Addr.add; simp
      have kn0 : (0 : Int) ≤ (k : Int) := by omega
      have kn1 : (k : Int) < (n : Int) := by omega
      have kn2 : (k : Int) ≤ (n : Int) := by omega
      have c1 := hac k (by omega)
      have c2 := hac (k + 1) (by omega)
      rw [e2] at c2
      have f1 := hb.fr k
      have hl1 := hb.lt
      have c3 : wr.cell? ⟨w.heap.size + 2, k, none⟩ = some (.int .i64 ((fl L p k).getD k 0 : Nat)) := by
        rw [hb.cell k]
        have := nums_at (L := fl L p k) (j := k) (by rw [fl_len HAL.out hk]; exact hlt)
        simpa using this
      obtain ⟨v3, hv3⟩ : ∃ v : Nat, (fl L p k).getD k 0 = v := ⟨_, rfl⟩
      rw [hv3] at c3
      obtain ⟨a1, a2, a4, a5, a3, a6⟩ := HAT.out k hlt
      obtain ⟨y, hy⟩ : ∃ y, L.getD k 0 = y := ⟨_, rfl⟩
      obtain ⟨z, hzz⟩ : ∃ z, x.getD k 0 = z := ⟨_, rfl⟩
      obtain ⟨z2, hz2⟩ : ∃ z, x.getD (k + 1) 0 = z := ⟨_, rfl⟩
      rw [hy] at a3 a6
      rw [hzz] at c1 a1 a2 a3
      rw [hz2] at c2 a4 a5 a3
      obtain ⟨d, hd⟩ : ∃ d, z2 - z = d := ⟨_, rfl⟩
      rw [hd] at a3
      have HF : Hid (∀ W, Calls Tryz.prog 124 #[.int .i64 d] W fun e w' => e = .returned (.int .u64 (y : Int)) ∧ W = w') := fun W => by rw [a3]; exact fold_any d (by omega) (by omega) W
      have HY := Lib.hid hy
      have ki : (k : Int) < (p : Int) := by omega
      have yb : (y : Int) < 4096 := by omega
      have w1 : IntKind.i64.wrap (y : Int) = (y : Int) := IntWalk.i64_in _ (by omega)
      have w2 : IntKind.i64.wrap d = d := IntWalk.i64_in _ (by omega)
      have w3 : IntKind.i64.wrap ((k : Int) + 1) = (k : Int) + 1 := IntWalk.i64_in _ (by omega)
      have k1 : (k : Int) + 1 < (n : Int) := by omega
      have k2 : ((k : Int) + 1).toNat = k + 1 := by omega
      have k3 : (0 : Int) ≤ (k : Int) + 1 := by omega
      have HST : Hid (Bk (wr.setCell ⟨w.heap.size + 2, k, none⟩ (.int .i64 (y : Int))) (w.heap.size + 2) 3 (nums (fl L p (k + 1))).toArray) := by
        have h4 := hb.st k (.int .i64 (y : Int))
        rw [nums_set, ← hy, fl_set HAL.out hlt] at h4
        rw [← hy]
        exact h4
      clear hv3 e2 hb hh hbe hac hab hac0 hy hzz hz2 a3
      go_wp2_with fail
      go_region_held3 (fun w' => w'.cell? ⟨ad.block, ad.off + (k + 1), none⟩ = some (.int .i64 z2) ∧ w'.cell? (ad.add k) = some (.int .i64 z))
        ((refine ⟨?_, ?_⟩) <;> (repeat (first | exact c1 | exact c2 | (with_reducible refine kp_drwN ?_ _) | (with_reducible refine kp_drw ?_) | (with_reducible refine kp_far ?_ n1 _) | (with_reducible refine kp_far ?_ n2 _))))
        (first | (go_at_call 124; refine (HF.out _).mono ?_; rintro e w' ⟨rfl, rfl⟩))
      all_goals
        go_wp2
        go_roundw
        case rel => exact ⟨k + 1, _, rfl, by omega, by go_num, by first | exact HST.out | exact HST.out.drw | exact HST.out.drwN _, by first | exact HH.out.far (by simp) _ | exact (HH.out.far (by simp) _).drw | exact (HH.out.far (by simp) _).drwN _, hg, by simpa [World.setCell] using hsz, by first | exact HX.out.st (by show w.heap.size ≤ w.heap.size + 2; omega) _ | exact (HX.out.st (by show w.heap.size ≤ w.heap.size + 2; omega) _).drw | exact (HX.out.st (by show w.heap.size ≤ w.heap.size + 2; omega) _).drwN _⟩
        case measure => simp [intOf]; omega
    · obtain rfl : k = p := by omega
      have hbb := hb
      rw [fl_end HAL.out] at hbb
      have HBB := Lib.hid hbb
      obtain ⟨ad, rfl, hab, hac⟩ := (HZ.out.bel hbe).2 (by omega)
      have c1 := hac 0 (by omega)
      rw [HZ0.out] at c1
      have HC1 := Lib.hid c1
      clear hb hh hbe hbb hac hab c1
      go_wp2_with (first
        | (go_at_call 210; refine (HWD.out _ _ HBB.out).mono ?_; rintro e w4 ⟨rfl, rfl⟩)
        | (go_at_call 209; refine (HPK.out _ _ HBB.out).mono ?_; rintro e w5 ⟨h5, rfl, hr5, _, hb5⟩; have HR5 := Lib.hid hr5; have HB5 := Lib.hid hb5; have hc5 := hb5.kp HC1.out; rw [add_zero] at hc5; clear hr5 hb5)
        | (go_at_call 97; refine (HPN.out _).mono ?_; rintro e w6 ⟨h6, rfl, ho6, hb6⟩; have HO6 := Lib.hid ho6; have HB6 := Lib.hid hb6; clear ho6 hb6)
        | (at_builtin; refine wpList_append_rd rfl (.tmp 50) (.tmp 53) 112 rfl w5.heap.size 5 j0 (.int .u8 0) Tryz.underlying112 HJ.out.1 HJ.out.2.1 HJ.out.2.2.1 HJ.out.2.2.2 rfl (.slice (some ⟨h6, 0, none⟩) k0 10) k0 (bys (bytesOf z0)) rfl (HO6.out.alloc _) (some ⟨w6.heap.size, 0, none⟩) 1 1 [q] rfl (Pk.rd_bk (L := [q]) (Bk.nq _ _ _ rfl) (by intro v hv; simp at hv; omega) 1 rfl) (fun h => by cases h) (by omega) (by have := HB6.out.size; simp; omega) ?_; intro u7 w7 ho7 hg7; have HO7 := Lib.hid ho7; have HB7 : Hid (Bel w5 w7) := (Below.grown (HB6.out.al _).bl hg7 (by have := HB6.out.size; simp; omega) (fun b e => (HO6.out.lt b e).1)); clear ho7 hg7)
        | (at_builtin; refine wpList_append_rd rfl (.tmp 55) (.tmp 56) 112 rfl w5.heap.size 5 j0 (.int .u8 0) Tryz.underlying112 HJ.out.1 HJ.out.2.1 HJ.out.2.2.1 HJ.out.2.2.2 rfl u7 (k0 + 1) (bys (bytesOf z0) ++ bys [q]) rfl HO7.out (some ⟨h5, 0, none⟩) N N (packed L q) rfl (HR5.out.bel HB7.out) (fun h => by cases h) (by omega) HB7.out.size ?_; intro u8 w8 ho8 hg8; have HO8 := Lib.hid ho8; have HB8 : Hid (Bel w5 w8) := (Below.grown HB7.out.bl hg8 HB7.out.size (fun b e => (HO7.out.lt b e).1)); clear ho8 hg8))
      go_ret2
      have h8 := HO8.out
      rw [← bys_app, ← bys_app, ← HDD.out] at h8
      have hlen : (dd x).length = k0 + 1 + N := by rw [HDD.out]; simp [HKK.out, HPL.out]; omega
      obtain ⟨g, c8, rfl, _, _, _, hr8⟩ := own_rd h8 HDB.out hlen (by omega)
      exact ⟨some ⟨g, 0, none⟩, k0 + 1 + N, c8, rfl, hlen, hr8, fun e => (by cases e), HX.out.tr (HB5.out.tr HB8.out)⟩
end Go.Proofs.YtpbnabibnkohdaaGreatDoor.Sg
namespace Go.Proofs.YtpbnabibnkohdaaGreatDoor.Sg
open Go.ChangeShapes Go.WideShapes Go.RowKit Wo
set_option linter.unusedVariables false
theorem step_quiet1 {P : Program} (w : World) {ops : Array Oper} {o : Oper} {a : Act} {K : Act → World → Prop} {Q : Exit → Act → World → Prop} {E : Prop} (hgd : o.guard = none) (f : FuncId) (x : Operand) (t : TypeId)
    (ho : o.op = .call { callee := .value (.func f), args := #[x], argTypes := #[t] }) (he : ∀ args w, (callFunc f args).run P w = .ok (.enter f args) w) (xv : Value) (hx : a.eval x = xv) (v : Value) (hc : Calls P f #[xv] w fun e w' => e = .returned v ∧ w = w') (h : K (a.put o.dst v) w) :
    if Region.wanted o (yielded ops a.tmps) = true then Oper.wp P o a w K Q else E := by
  rw [if_pos (by simp [Region.wanted, hgd])]
  unfold Oper.wp execOp
  subst hx
  simp only [ho, resolve, invoke, Sem.run_bind, Sem.run_pure, Result.andThen_ok, List.map_toArray, List.map_cons, List.map_nil, Act.eval, go_sem]
  erw [he]
  refine Calls.mono hc ?_
  rintro e w' ⟨rfl, rfl⟩
  exact h
theorem enters57 : ∀ (args : Array Value) (w : World), (callFunc 152 args).run Tryz.prog w = .ok (.enter 152 args) w := fun _ _ => by kernel_rfl
end Go.Proofs.YtpbnabibnkohdaaGreatDoor.Sg
namespace Go.Proofs.YtpbnabibnkohdaaGreatDoor.Sg
open Go.ChangeShapes Go.WideShapes Go.RowKit Wo Bm By Cd Pk
open Wi (Zi zi_bk step_app own_any row_zi own_base bel_grown own_bel row_form)
open Sr (zs zs_at zs_len)
set_option linter.unusedVariables false
theorem zi_one {W : World} {g : Nat} {x : Int} (hb : Bk W g 3 #[.int .i64 x]) : Zi W (some ⟨g, 0, none⟩) 1 [x] := zi_bk (L := [x]) hb 1 rfl
theorem int_as (A : Option Addr) (c : Nat) (B : List Nat) (lb at_ : Nat) (hlb : B.length = lb) (d : Int × Int × Int) (hd : dec B at_ = d) (hat : at_ ≤ lb) (hB : lb ≤ 140737488355000) (w : World) (hr : Rd w A lb B) :
    Calls Tryz.prog 128 #[.slice A lb c, .int .i64 (at_ : Int)] w fun e w' => e = .returned (.tuple #[.int .i64 d.1, .int .i64 d.2.1, .int .i64 d.2.2]) ∧ w = w' := by
  subst hlb hd
  exact int_any A c B at_ hat hB w hr
theorem add_add (a : Addr) (i j : Nat) : (a.add i).add j = a.add (i + j) := by
  unfold Addr.add
  rcases Nat.eq_zero_or_pos i with rfl | hi
  · simp
  · rcases Nat.eq_zero_or_pos j with rfl | hj
    · simp
    · rw [if_neg (by omega), if_neg (by omega), if_neg (by omega)]
      simp [Nat.add_assoc]
theorem rd_dropg {w : World} {ad : Addr} {n : Nat} {L : List Nat} (hr : Rd w (some ad) n L) (i : Nat) (hi : i ≤ n) : Rd w (some (ad.add i)) (n - i) (L.drop i) := by
  refine ⟨by rw [List.length_drop, hr.1], fun c hc => hr.2.1 c (List.mem_of_mem_drop hc), fun hp => ?_⟩
  obtain ⟨ad, e, hb, hc⟩ := hr.2.2 (by omega)
  cases e
  refine ⟨_, rfl, by rw [By.add_blk]; exact hb, fun j hj => ?_⟩
  have := hc (i + j) (by omega)
  rw [add_add, this]
  simp [List.getD_eq_getElem?_getD]
/-- the samples read so far: so many of them; those of every x of which this is the data -/
def ERel (P : List Nat) (S : List Nat) (n : Nat) (w : World) (s12 s49 : Value) (wr : World) : Prop := ∃ (k : Nat) (I : List Int) (V : World) (u : Value), V = wr ∧ u = s12 ∧ k ≤ S.length ∧ s49 = .int .i64 (k : Int) ∧ I.length = k + 1 ∧ wr.ownsRow w.heap.size 3 1 s12 (k + 1) (zs I) ∧ Bel w wr ∧
  (∀ x, Vx x → x.length = n → P = dd x → I = x.take (k + 1))
theorem dd_steps {P S : List Nat} {p : Nat} {z er : Int} {n m : Nat} (hd : dec P 0 = (z, (p : Int), 0))
    (hq : ∀ (L0 : List Nat) (q : Nat), q ≤ 32 → L0.length = n - 1 → (∀ v ∈ L0, v < 2 ^ q) → ((P.getD p 0 : Nat) : Int) = (q : Int) → P.drop (p + 1) = packed L0 q → er = 0 ∧ m = n - 1 ∧ S = L0) {x : List Int} (hx : Vx x) (hn : x.length = n) (h : P = dd x) : er = 0 ∧ m = n - 1 ∧ S = stp x ∧ z = x.getD 0 0 := by
  subst h
  obtain ⟨p', e1, e2, e3, e4⟩ := dd_read hx
  rw [hd] at e1
  have hz : z = x.getD 0 0 := congrArg (·.1) e1
  have hp : p = p' := by have := congrArg (·.2.1) e1; exact Int.ofNat.inj this
  subst hp
  obtain ⟨a, b, c⟩ := hq (stp x) (wd (stp x)) (by have := dw_le hx.2.2; omega) (by rw [stp_len, hn]) (stp_fits hx.2.2) (by rw [e3]) e4
  exact ⟨a, b, c, hz⟩
set_option maxHeartbeats 8000000 in
set_option maxRecDepth 100000 in
theorem kdec2 (A : Option Addr) (c M n : Nat) (P : List Nat) (K Lo G S : Int) (hn1 : 1 ≤ n) (hn : n ≤ 64) (hM : M ≤ 1000000) (hcc : M < c) (hcm : c ≤ 9223372036854775807) (w : World) (hr : Rd w A M P) :
    Calls Tryz.prog 216 #[.agg #[], .slice A M c, hdv K (n : Int) Lo G S] w (SomeKd (fun x => x.length = n ∧ P = dd x) w) := by
  obtain ⟨d, hd⟩ : ∃ d, dec P 0 = d := ⟨_, rfl⟩
  have HI : Hid (∀ W, Bel w W → _) := fun W hb => int_as A c P M 0 hr.1 d hd (Nat.zero_le _) (by omega) W (hr.bel hb)
  have hbw : Bel w ((w.alloc (.cells #[] 216)).alloc (.cells (hcs K (n : Int) Lo G S) 145)) := (Bel.rf.al _).al _
  have HBW := Lib.hid hbw
  obtain ⟨z, pk, er⟩ := d
  simp only [] at HI
  rcases Classical.em (er = 0) with her | her
  · subst her
    obtain ⟨hz64, p, rfl, hp0, hpl, hdr⟩ := dec_canon hr.2.1 (Nat.zero_le _) hd
    rw [hr.1] at hpl
    rcases Nat.lt_or_ge p M with hlt | hge
    · have HP := Lib.hid (fun (m : Nat) (S : List Nat) (er : Int) hq x hx hn2 h => dd_steps (P := P) (S := S) (p := p) (z := z) (er := er) (n := n) (m := m) hd hq (x := x) hx hn2 h)
      obtain ⟨ad, rfl, hab, hac⟩ := hr.2.2 (by omega)
      have hbb := hr.byte p
      have cp := hac p hlt
      obtain ⟨q, hq⟩ : ∃ q, p + 1 = q := ⟨_, rfl⟩
      obtain ⟨n1, hn1'⟩ : ∃ n1, n - 1 = n1 := ⟨_, rfl⟩
      obtain ⟨m1, hm1⟩ : ∃ m1, M - q = m1 := ⟨_, rfl⟩
      obtain ⟨c1, hc1⟩ : ∃ c1, c - q = c1 := ⟨_, rfl⟩
      have hrq := rd_dropg hr q (by omega)
      rw [hm1] at hrq
      rw [hq, hn1'] at HP
      obtain ⟨b, hb⟩ : ∃ b, P.getD p 0 = b := ⟨_, rfl⟩
      rw [hb] at cp hbb HP
      have HU : Hid (∀ W, Bel w W → Calls Tryz.prog 208 #[.slice (some (ad.add q)) m1 c1, .int .i64 (b : Int), .int .i64 (n1 : Int)] W (SomeUnp (P.drop q) (b : Int) n1 W)) := fun W h => unp_all (some (ad.add q)) c1 m1 n1 (P.drop q) (b : Int) (by omega) (by omega) (by omega) (by omega) W (hrq.bel h)
      obtain ⟨W0, hW0⟩ : ∃ W0, (w.alloc (.cells #[] 216)).alloc (.cells (hcs K (n : Int) Lo G S) 145) = W0 := ⟨_, rfl⟩
      rw [hW0] at hbw HBW
      have hh : Bk W0 (w.heap.size + 1) 145 (hcs K (n : Int) Lo G S) := by rw [← hW0]; exact Bk.nq _ _ _ (by simp)
      have d1 : W0.cell? ⟨w.heap.size + 1, 1, none⟩ = some (.int .i64 (n : Int)) := hh.cell 1
      have d2 := hbw.kp cp
      have KS : Hid (∀ W', Bel W0 W' → ((fun w' => w'.cell? ⟨w.heap.size + 1, 1, none⟩ = some (.int .i64 (n : Int)) ∧ w'.cell? (ad.add p) = some (.int .u8 (b : Int))) W')) := fun W' h => ⟨h.kp d1, h.kp d2⟩
      have e0 : ((p : Int) == (M : Int)) = false := by simp; omega
      have e1 : (p : Int) + 1 = (q : Int) := by omega
      have e2 : IntKind.i64.wrap (q : Int) = (q : Int) := IntWalk.i64_in _ (by omega)
      have e3 : (n : Int) - 1 = (n1 : Int) := by omega
      have e4 : IntKind.i64.wrap (n1 : Int) = (n1 : Int) := IntWalk.i64_in _ (by omega)
      have e5 : (q : Int) ≤ (M : Int) := by omega
      have e6 : (0 : Int) ≤ (q : Int) := by omega
      have e7 : (q : Int) ≤ (c : Int) := by omega
      have e8 : ¬ c = q := by omega
      have e9 : (0 : Int) ≤ (p : Int) := by omega
      have e10 : (p : Int) < (M : Int) := by omega
      have e11 : (M : Int) ≤ (c : Int) := by omega
      have e12 : IntKind.i64.wrap (b : Int) = (b : Int) := IntWalk.i64_in _ (by omega)
      have e13 : (b : Int) < 256 := by omega
      have hwz : W0.heap.size = w.heap.size + 2 := by rw [← hW0]; simp
      have e14 : n1 + 1 = n := by omega
      clear hr hd hdr hac hab hrq hb hq hn1' hbw hh cp
      unfold hdv
      unfold hcs at hW0
      go_enter Tryz.func216, Tryz.ntmps216
      go_wp2_with fail
      go_at_call 128
      (try rw [hW0])
      refine (HI.out _ HBW.out).mono ?_
      rintro e w1 ⟨rfl, rfl⟩
      clear hW0 HI
      go_wp2_with fail
      go_region_held3 (fun w' => w'.cell? ⟨w.heap.size + 1, 1, none⟩ = some (.int .i64 (n : Int)) ∧ w'.cell? (ad.add p) = some (.int .u8 (b : Int)))
        (first
          | (refine KS.out _ ?_; (repeat (first | exact Bel.rf | exact HB5.out | (with_reducible refine Bel.drwN ?_ _) | (with_reducible refine Bel.drw ?_) | (with_reducible refine Bel.al ?_ _))); done))
        (first
          | (go_at_call 208; refine (HU.out _ (HBW.out.tr (by repeat (first | exact Bel.rf | (with_reducible refine Bel.drwN ?_ _) | (with_reducible refine Bel.drw ?_))))).mono ?_; rintro e w5 ⟨A5, m, T, er, rfl, hri, hm, hlt5, hn0, hbk, hb5, hq5⟩; have HB5 : Hid (Bel W0 w5) := (by first | exact hb5 | exact Bel.rf.drw.tr hb5 | exact (Bel.rf.drwN _).tr hb5); have HQ := Lib.hid (And.intro hri (And.intro hlt5 (And.intro hbk hq5))); clear hb5 hri hlt5 hbk hq5))
      all_goals
        obtain ⟨hri, hlt5, hbk, hq5⟩ := HQ.out
        have HPP := Lib.hid (fun x hx hn2 h => HP.out m T er hq5 x hx hn2 h)
        have HBF : Hid (Bel w w5) := HBW.out.tr HB5.out
        have HRI := Lib.hid hri
        have HLT := Lib.hid hlt5
        have htl := hri.1
        have HR0 : Hid (ERel P T n w5 (.slice (some ⟨w5.heap.size, 0, none⟩) 1 1) (.int .i64 0) (w5.alloc (.cells #[.int .i64 z] 3))) :=
          ⟨0, [z], _, _, rfl, rfl, by omega, rfl, rfl, World.ownsRow_lit w5 #[.int .i64 z] 1 (Nat.le_refl _) (by unfold maxLen; omega) rfl, Bel.rf.al _, fun x hx hn2 h => by
            have h3 := (HPP.out x hx hn2 h).2.2.2
            rw [take_next x 0 (by omega), ← h3]; simp⟩
        clear hri hlt5 hbk hq5 HQ hn0 d1 d2 e0 e1 e2 e3 e4 e5 e6 e7 e8 e9 e10 e11 e12 e13
        go_wp2
        go_loopw [12, 49] (fun s12 s49 wr => ERel P T n w5 s12 s49 wr) (fun _ s49 _ => m - (intOf s49).toNat)
        case atStart => exact HR0.out
        case round =>
          clear HR0
          obtain ⟨k, I, wr, u, hwr, hu, hk, rfl, hil, hown, hbe, hx⟩ := hrel
          subst hwr hu
          have HO := Lib.hid hown
          have HX := Lib.hid hbe
          have HPR := Lib.hid hx
          have HIL := Lib.hid hil
          have hsz := hbe.size
          obtain ⟨g9, c9, rfl, hc9, hg9⟩ := row_form hown (by omega)
          rcases Nat.lt_or_ge k m with hlt2 | hge2
          · obtain ⟨ad5, rfl, hab5, hac5⟩ := (Ri.bel HRI.out hbe).2 (by omega)
            have c5 := hac5 k hlt2
            have c6 : wr.cell? ⟨g9, k, none⟩ = some (.int .i64 (I.getD k 0)) := (by rw [← By.add_row]; exact hown.cells (g := g9) rfl k _ (zs_at (by omega)))
            have hsl : T.getD k 0 < 4294967296 := by
              rw [List.getD_eq_getElem?_getD, List.getElem?_eq_getElem (by omega)]
              exact HLT.out _ (List.getElem_mem _)
            obtain ⟨s, hs⟩ : ∃ s, T.getD k 0 = s := ⟨_, rfl⟩
            obtain ⟨y, hy⟩ : ∃ y, I.getD k 0 = y := ⟨_, rfl⟩
            rw [hs] at c5 hsl
            rw [hy] at c6
            have HUF0 := fun W => unfold_any s (by omega) W
            obtain ⟨f, hf⟩ : ∃ f, unf s = f := ⟨_, rfl⟩
            rw [hf] at HUF0
            have HUF := Lib.hid HUF0
            obtain ⟨v, hv⟩ : ∃ v, IntKind.i64.wrap (y + f) = v := ⟨_, rfl⟩
            have hv2 : wrap64 (y + f) = v := (IntWalk.i64_left _).symm.trans hv
            have u1 : (s : Int) % 18446744073709551616 = (s : Int) := by omega
            have u2 : IntKind.u64.wrap (s : Int) = (s : Int) := by rw [IntKind.wrap_u64]; omega
            have ki : (k : Int) < (m : Int) := by omega
            have ki0 : (0 : Int) ≤ (k : Int) := by omega
            have ki1 : (k : Int) < (k : Int) + 1 := by omega
            have HN : Hid (∀ x, Vx x → x.length = n → P = dd x → I ++ [v] = x.take (k + 2)) := fun x hx hn2 h => by
              obtain ⟨h1, h2, h3, h4⟩ := HPP.out x hx hn2 h
              have h5 := HPR.out x hx hn2 h
              have hkx : k + 1 < x.length := by omega
              have hyx : y = x.getD k 0 := by rw [← hy, h5, List.getD_eq_getElem?_getD, List.getElem?_take_of_lt (by omega), ← List.getD_eq_getElem?_getD]
              have h6 := step_back hx.2.2 hkx
              rw [← h3, hs, hf, ← hyx] at h6
              have h7 : v = x.getD (k + 1) 0 := by
                rw [← hv, h6]
                have := hx.2.2.at (k + 1)
                exact IntWalk.i64_in _ (by omega)
              rw [take_next x (k + 1) hkx, ← h5, h7]
            clear hown hbe hx hil hac5 hab5 hs hy HUF0 hf
            go_wp2_with fail
            have c7 : ∀ o, (wr.alloc o).cell? ⟨g9, k, none⟩ = some (.int .i64 y) := fun o => kp_al c6 o
            go_region_law
              (first
              | (refine step_quiet1 _ rfl 152 (.tmp 60) _ rfl enters57 (.int .u64 (s : Int)) (by first | rfl | simp [Act.eval, Act.put, u2]) (.int .i64 f) (HUF.out _) ?_)
              | (refine step_app _ rfl (.tmp 54) (.tmp 63) rfl w5.heap.size (.slice (some ⟨g9, 0, none⟩) (k + 1) c9) (k + 1) I rfl (own_bel HO.out (by repeat (first | exact Bel.rf | (with_reducible refine Bel.drwN ?_ _) | (with_reducible refine Bel.drw ?_) | (with_reducible refine Bel.al ?_ _)))) _ 1 1 [v] rfl (by first | (refine zi_one (Bk.nq _ _ _ ?_); simp; done) | (refine zi_one ((Bk.nq _ _ _ ?_).al _); simp; done)) (by omega) (by simp; omega) ?_; intro vp wp hop hgp hatp; have hbw : Bel w5 wp := Below.grown (HX.out.tr (by repeat (first | exact Bel.rf | (with_reducible refine Bel.drwN ?_ _) | (with_reducible refine Bel.drw ?_) | (with_reducible refine Bel.al ?_ _)))) hgp (HX.out.tr (by repeat (first | exact Bel.rf | (with_reducible refine Bel.drwN ?_ _) | (with_reducible refine Bel.drw ?_) | (with_reducible refine Bel.al ?_ _)))).size (fun q e => (HO.out.lt q e).1)))
            all_goals
              have HR := Lib.hid (And.intro hop hbw)
              clear hop hbw hgp hatp
              go_wp2
              go_roundw
              case rel => exact ⟨k + 1, I ++ [v], _, _, rfl, rfl, by omega, by go_num, by rw [List.length_append, HIL.out]; rfl, HR.out.1, HR.out.2, HN.out⟩
              case measure => simp [intOf]; omega
          · obtain rfl : k = m := by omega
            have hcm9 : c9 ≤ maxLen := by
              rcases hown.2 with ⟨h9, _⟩ | ⟨g, cap, cur, e, _, _, hc, hm9, _⟩
              · cases h9
              · injection e with e1 e2 e3; rw [e3]; exact hm9
            have hz9 := Wi.own_zi hown HIL.out
            have HZ9 := Lib.hid hz9
            clear hown hbe hx hil hz9
            go_wp2
            go_ret2
            exact ⟨some ⟨g9, 0, none⟩, k + 1, c9, I, _, rfl, HZ9.out, by omega, hc9, hcm9, fun e => (by cases e), fun ad e => ⟨g9, (by cases e; rfl), Nat.le_trans HBF.out.size hg9⟩, HBF.out.tr HX.out, fun x hx h => (by
              obtain ⟨h1, h2, h3, h4⟩ := HPP.out x hx h.1 h.2
              refine ⟨by simp [h1], ?_⟩
              rw [HPR.out x hx h.1 h.2, List.take_of_length_le (by have := h.1; omega)])⟩
    · obtain rfl : p = M := by omega
      have HNO : Hid (∀ x, Vx x → (x.length = n ∧ P = dd x) → False) := fun x hx h => by
        obtain ⟨p', e1, e2, _⟩ := dd_read hx
        rw [← h.2, hd] at e1
        have hp : p = p' := by have := congrArg (·.2.1) e1; exact Int.ofNat.inj this
        have := hr.1
        rw [h.2] at this
        omega
      clear hr hd hdr
      unfold hdv
      go_enter Tryz.func216, Tryz.ntmps216
      go_wp2_with (go_at_call 128; refine (HI.out _ HBW.out).mono ?_; rintro e w1 ⟨rfl, rfl⟩)
      go_ret2
      exact ⟨none, 0, 0, [], false, rfl, ⟨rfl, fun h => by omega⟩, by omega, by omega, by unfold maxLen; omega, fun _ => rfl, fun ad e => (by cases e), HBW.out, fun x hx h => (HNO.out x hx h).elim⟩
  · have HNO : Hid (∀ x, Vx x → (x.length = n ∧ P = dd x) → False) := fun x hx h => by
      obtain ⟨p', e1, e2, _⟩ := dd_read hx
      rw [← h.2, hd] at e1
      exact her (congrArg (·.2.2) e1)
    have q1 : (er != 0) = true := by simpa using her
    clear hr hd
    unfold hdv
    go_enter Tryz.func216, Tryz.ntmps216
    go_wp2_with (go_at_call 128; refine (HI.out _ HBW.out).mono ?_; rintro e w1 ⟨rfl, rfl⟩)
    go_ret2
    exact ⟨none, 0, 0, [], false, rfl, ⟨rfl, fun h => by omega⟩, by omega, by omega, by unfold maxLen; omega, fun _ => rfl, fun ad e => (by cases e), HBW.out, fun x hx h => (HNO.out x hx h).elim⟩
end Go.Proofs.YtpbnabibnkohdaaGreatDoor.Sg
namespace Go.Proofs.YtpbnabibnkohdaaGreatDoor.Sg
open Go.ChangeShapes Go.WideShapes Go.RowKit Wo Bm By Cd Pk
open Wi (Zi zi_bk)
open Sr (zs zs_at zs_len)
set_option linter.unusedVariables false
theorem meth_e0 (w : World) : (method 376 214 (.agg #[]) "shapesearch/segment.encode").run Tryz.prog w = .ok (204, .agg #[]) w := by kernel_rfl
theorem meth_e1 (w : World) : (method 376 215 (.agg #[]) "shapesearch/segment.encode").run Tryz.prog w = .ok (206, .agg #[]) w := by kernel_rfl
theorem meth_e2 (w : World) : (method 376 216 (.agg #[]) "shapesearch/segment.encode").run Tryz.prog w = .ok (217, .agg #[]) w := by kernel_rfl
theorem kenc1' (A : Option Addr) (c n : Nat) (x : List Int) (hv : Vx x) (hn : x.length = n) (K C S : Int) (w : World) (hz : Zi w A n x) :
    Calls Tryz.prog 206 #[.agg #[], .slice A n c, hdv K C (mn x) (mx x) S] w (SomeKe (pd x) w) := by
  refine (kenc1 A c n _ x hv hn rfl K C S w hz).mono ?_
  rintro e w' ⟨h, rfl, hr, hb⟩
  exact ⟨_, _, _, rfl, rfl, hr, fun e => (by cases e), hb⟩
/-- what is known behind k kinds: the kind, the data, whether there are some -/
def stt (x : List Int) (k : Nat) : Nat × List Nat × Bool :=
  if k = 0 then (0, [], false) else if k = 1 then (0, [], decide (mn x = mx x)) else if k = 2 then (if mn x = mx x then (0, [], true) else (1, pd x, true)) else (kd x, dt x, true)
/-- what best gives of samples -/
def SomeBest (x : List Int) (w : World) (e : Ending) (w' : World) : Prop := ∃ (A : Option Addr) (N c : Nat), e = .returned (.tuple #[hdv (kd x) x.length (mn x) (mx x) x.sum, .slice A N c]) ∧ (dt x).length = N ∧ Rd w' A N (dt x) ∧ (A = none → c = 0) ∧ Bel w w'
def BRel (x : List Int) (g n : Nat) (w : World) (s7 s8 s34 : Value) (wr : World) : Prop := ∃ (k : Nat) (A : Option Addr) (N c : Nat) (V : World), V = wr ∧ k ≤ 3 ∧ s34 = .int .i64 (k : Int) ∧ s8 = .bool (stt x k).2.2 ∧ s7 = .slice A N c ∧ (stt x k).2.1.length = N ∧ Rd wr A N (stt x k).2.1 ∧ (A = none → c = 0) ∧
  Bk wr (w.heap.size + 1) 145 (hcs (stt x k).1 (n : Int) (mn x) (mx x) x.sum) ∧ Bk wr w.heap.size 145 (hcs 0 0 0 0 0) ∧ Bk wr g 180 knd ∧ Bel w wr
theorem results_h {fn : Func} {p u : Tmp} (h : fn.results = #[.cell p 145, .tmp u]) (tmps : Array Value) (w : World) (g : Nat) (K C Lo G S : Int)
    (hp : tmps.getD p undef = .pointer (some ⟨g, 0, none⟩)) (hg : Bk w g 145 (hcs K C Lo G S)) :
    (results fn tmps).run Tryz.prog w = .ok (.tuple #[hdv K C Lo G S, tmps.getD u undef]) w := by
  have hp' : tmps[p]?.getD undef = .pointer (some ⟨g, 0, none⟩) := by simpa using hp
  have hl := run_loadVar_row (P := Tryz.prog) w g 145 145 (hcs K C Lo G S) (0, 0) _ hg Tryz.underlying145 rfl (by kernel_rfl)
  simp [results, h, hp', asAddr, hl, hdv, hcs]
theorem rd_cs {w : World} {A : Option Addr} {N p i : Nat} {t : TypeId} {cs : Array Value} {L : List Nat} {z : Int} (h : Rd w A N L) (hb : Bk w p t cs) (hi : cs[i]? = some (.int .i64 z)) (v : Value) : Rd (w.setCell ⟨p, i, none⟩ v) A N L := by
  refine ⟨h.1, h.2.1, fun hn => ?_⟩
  obtain ⟨ad, e, hx, hc⟩ := h.2.2 hn
  refine ⟨ad, e, by simpa [World.setCell] using hx, fun j hj => ?_⟩
  have h1 := hc j hj
  refine (World.cell?_setCell_other _ _ _ _ (fun e => ?_)).trans h1
  rw [← e] at h1
  have h2 := hb.cell i
  rw [h1, hi] at h2
  simp at h2
theorem rd_hd {w : World} {A : Option Addr} {N p : Nat} {L : List Nat} {K C Lo G S : Int} (h : Rd w A N L) (hb : Bk w p 145 (hcs K C Lo G S)) (v : Value) : Rd (w.setCell ⟨p, 0, none⟩ v) A N L := by
  refine ⟨h.1, h.2.1, fun hn => ?_⟩
  obtain ⟨ad, e, hx, hc⟩ := h.2.2 hn
  refine ⟨ad, e, by simpa [World.setCell] using hx, fun j hj => ?_⟩
  have h1 := hc j hj
  refine (World.cell?_setCell_other _ _ _ _ (fun e => ?_)).trans h1
  rw [← e] at h1
  have h2 := hb.cell 0
  rw [h1] at h2
  simp [hcs] at h2
theorem brel_no {x : List Int} {g n : Nat} {w w4 : World} {k' N c K : Nat} {A : Option Addr} {D : List Nat} {b : Bool} (hk : k' ≤ 3) (hst : stt x k' = (K, D, b)) (hD : D.length = N) (hrd : Rd w4 A N D) (hA : A = none → c = 0)
    (HH : Bk w4 (w.heap.size + 1) 145 (hcs (K : Int) (n : Int) (mn x) (mx x) x.sum)) (HB0 : Bk w4 w.heap.size 145 (hcs 0 0 0 0 0)) (HBK : Bk w4 g 180 knd) (hX : Bel w w4) :
    BRel x g n w (.slice A N c) (.bool b) (.int .i64 (k' : Int)) w4 :=
  ⟨k', A, N, c, w4, rfl, hk, rfl, by rw [hst], rfl, by rw [hst]; exact hD, by rw [hst]; exact hrd, hA, by rw [hst]; exact HH, HB0, HBK, hX⟩
theorem brel_st {x : List Int} {g n : Nat} {w w4 : World} {k' N c K' : Nat} {K : Int} {A : Option Addr} {D : List Nat} {b : Bool} (hk : k' ≤ 3) (hst : stt x k' = (K', D, b)) (hD : D.length = N) (hrd : Rd w4 A N D) (hA : A = none → c = 0)
    (HH : Bk w4 (w.heap.size + 1) 145 (hcs K (n : Int) (mn x) (mx x) x.sum)) (HB0 : Bk w4 w.heap.size 145 (hcs 0 0 0 0 0)) (HBK : Bk w4 g 180 knd) (hX : Bel w w4) (hg : g ≠ w.heap.size + 1) :
    BRel x g n w (.slice A N c) (.bool b) (.int .i64 (k' : Int)) (w4.setCell ⟨w.heap.size + 1, 0, none⟩ (.int .i64 (K' : Int))) :=
  brel_no hk hst hD (rd_hd hrd HH _) hA (HH.st 0 _) (HB0.far (by show w.heap.size ≠ w.heap.size + 1; omega) _) (HBK.far hg _) (hX.st (by show _ ≤ w.heap.size + 1; omega) _)
set_option maxHeartbeats 1600000 in
set_option maxRecDepth 100000 in
theorem best_ok (h o c n : Nat) (x : List Int) (hv : Vx x) (hn : x.length = n) (w : World) (hz : Zi w (some ⟨h, o, none⟩) n x) :
    Calls Tryz.prog 96 #[.slice (some ⟨h, o, none⟩) n c] w (SomeBest x w) := by
  have hn1 : 1 ≤ n ∧ n ≤ 64 := by have := hv.1; have := hv.2.1; omega
  have HMN : Hid (∀ W, Bel w W → Calls Tryz.prog 121 #[.slice (some ⟨h, o, none⟩) n c] W fun e w' => e = .returned (.int .i64 (mn x)) ∧ W = w') := fun W hb => by
    refine (Tryz.slices_Min_int h o n c x W (by omega) (by omega) (by omega) (fun j hj => ?_)).mono ?_
    · obtain ⟨ad, e, _, hc⟩ := (hz.bel hb).2 (by omega)
      cases e
      have h9 := hc j (by omega)
      have e2 : (⟨h, o, none⟩ : Addr).add j = ⟨h, o + j, none⟩ := by unfold Addr.add; split <;> simp_all
      rwa [e2] at h9
    · rintro e w' ⟨rfl, rfl⟩
      rw [List.take_of_length_le (by omega)]
      exact ⟨rfl, rfl⟩
  have HMX : Hid (∀ W, Bel w W → Calls Tryz.prog 122 #[.slice (some ⟨h, o, none⟩) n c] W fun e w' => e = .returned (.int .i64 (mx x)) ∧ W = w') := fun W hb => by
    refine (Tryz.slices_Max_int h o n c x W (by omega) (by omega) (by omega) (fun j hj => ?_)).mono ?_
    · obtain ⟨ad, e, _, hc⟩ := (hz.bel hb).2 (by omega)
      cases e
      have h9 := hc j (by omega)
      have e2 : (⟨h, o, none⟩ : Addr).add j = ⟨h, o + j, none⟩ := by unfold Addr.add; split <;> simp_all
      rwa [e2] at h9
    · rintro e w' ⟨rfl, rfl⟩
      rw [List.take_of_length_le (by omega)]
      exact ⟨rfl, rfl⟩
  have HZ := Lib.hid hz
  have HV := Lib.hid hv
  have HN := Lib.hid hn
  have HSM : Hid (∀ k, k ≤ n → -64000 ≤ (x.take k).sum ∧ (x.take k).sum ≤ 64000) := fun k hk => by
    have := sum_in (x.take k) (hv.2.2.take k)
    rw [List.length_take] at this
    omega
  have HSN : Hid (∀ k, k < n → (x.take (k + 1)).sum = (x.take k).sum + x.getD k 0) := fun k hk => by
    rw [take_next x k (by omega), List.sum_append]; simp
  have HSF : Hid ((x.take n).sum = x.sum) := by show _ = _; rw [List.take_of_length_le (by omega)]
  have HXA : Hid (∀ i, -1000 ≤ x.getD i 0 ∧ x.getD i 0 ≤ 1000) := fun i => hv.2.2.at i
  have KK : Hid (∀ W, _) := fun W => kinds_ok W
  have ni : (n : Int) ≤ 64 := by omega
  clear hz hv hn
  go_enter Tryz.func96, Tryz.ntmps96
  go_wp2_with (first
    | (go_at_call 121; refine (HMN.out _ (by repeat (first | exact Bel.rf | (with_reducible refine Bel.drwN ?_ _) | (with_reducible refine Bel.drw ?_) | (with_reducible refine Bel.al ?_ _)))).mono ?_; rintro e w' ⟨rfl, rfl⟩)
    | (go_at_call 122; refine (HMX.out _ (by repeat (first | exact Bel.rf | (with_reducible refine Bel.drwN ?_ _) | (with_reducible refine Bel.drw ?_) | (with_reducible refine Bel.al ?_ _)))).mono ?_; rintro e w' ⟨rfl, rfl⟩))
  go_loopw [22] (fun s22 wr => ∃ (k : Nat) (V : World), V = wr ∧ k ≤ n ∧ s22 = .int .i64 (k : Int) ∧ Bk wr (w.heap.size + 1) 145 (hcs 0 (n : Int) (mn x) (mx x) (x.take k).sum) ∧ Bk wr w.heap.size 145 (hcs 0 0 0 0 0) ∧ Bel w wr) (fun s22 _ => n - (intOf s22).toNat)
  case atStart => exact ⟨0, _, rfl, by omega, rfl, Bk.nq _ _ _ (by simp), (Bk.nw _ _ _).al _, (Bel.rf.al _).al _⟩
  case round =>
    clear HMN HMX
    obtain ⟨k, wr, hwr, hk, rfl, hb, hb0, hbe⟩ := hrel
    subst hwr
    have HB := Lib.hid hb
    have HB0 := Lib.hid hb0
    have HX := Lib.hid hbe
    have hl1 := hb.lt
    rcases Nat.lt_or_ge k n with hlt | hge
    · obtain ⟨ad, e, hab, hac⟩ := (HZ.out.bel hbe).2 (by omega)
      cases e
      have c1 := hac k hlt
      rw [show (⟨h, o, none⟩ : Addr).add k = ⟨h, o + k, none⟩ by unfold Addr.add; split <;> simp_all] at c1
      have c2 : wr.cell? ⟨w.heap.size + 1, 4, none⟩ = some (.int .i64 (x.take k).sum) := hb.cell 4
      have f1 := hb.fr 4
      have hs1 := HSM.out k hk
      have hs2 := HSM.out (k + 1) hlt
      have hs3 := HSN.out k hlt
      have hx := HXA.out k
      obtain ⟨y, hy⟩ : ∃ y, x.getD k 0 = y := ⟨_, rfl⟩
      obtain ⟨s, hs⟩ : ∃ s, (x.take k).sum = s := ⟨_, rfl⟩
      obtain ⟨s', hs'⟩ : ∃ s, (x.take (k + 1)).sum = s := ⟨_, rfl⟩
      rw [hy] at c1 hx hs3
      rw [hs] at c2 hs1 hs3
      rw [hs'] at hs2 hs3
      have e1 : s + y = s' := hs3.symm
      have HST : Hid (Bk (wr.setCell ⟨w.heap.size + 1, 4, none⟩ (.int .i64 s')) (w.heap.size + 1) 145 (hcs 0 (n : Int) (mn x) (mx x) (x.take (k + 1)).sum)) := by
        rw [hs']; exact hb.st 4 _
      have ki : (k : Int) < (n : Int) := by omega
      clear hb hb0 hbe hac hab hy hs hs' hs3
      go_wp2
      go_roundw
      case rel => exact ⟨k + 1, _, rfl, by omega, by go_num, HST.out, HB0.out.far (by show _ ≠ w.heap.size + 1; omega) _, HX.out.st (by show _ ≤ w.heap.size + 1; omega) _⟩
      case measure => simp [intOf]; omega
    · obtain rfl : k = n := by omega
      rw [HSF.out] at hb
      have HBB := Lib.hid hb
      clear hb hb0 hbe HB
      go_wp2_with (go_at_call 123; refine (KK.out _).mono ?_; rintro e w4 ⟨g, rfl, hg, hk4, hb4⟩; have HB4 := Lib.hid hb4; have HK4 := Lib.hid hk4; clear hb4 hk4)
      have HR0 : Hid (BRel x g k w (.slice none 0 0) (.bool false) (.int .i64 0) w4) :=
        ⟨0, none, 0, 0, _, rfl, by omega, rfl, rfl, rfl, rfl, Rd.nil _ _, fun _ => rfl, HBB.out.bel HB4.out, HB0.out.bel HB4.out, HK4.out, HX.out.tr HB4.out⟩
      go_loopw [7, 8, 34] (fun s7 s8 s34 wr => BRel x g k w s7 s8 s34 wr) (fun _ _ s34 _ => 3 - (intOf s34).toNat)
      case atStart => exact HR0.out
      have hgn : g ≠ w.heap.size + 1 := by omega
      case round =>
        clear HR0 HBB HB0 HX HB4 HK4 KK
        obtain ⟨q, A, N, c7, wq, hwq, hq, rfl, rfl, rfl, hDl, hrd, hAc, hbh, hb0, hbk, hbe⟩ := hrel
        subst hwq
        have HH := Lib.hid hbh
        have HB0 := Lib.hid hb0
        have HBK := Lib.hid hbk
        have HX := Lib.hid hbe
        have HRD := Lib.hid hrd
        have HAC := Lib.hid hAc
        have HDL := Lib.hid hDl
        have c0 := hbh.cell 0
        have c1 := hbh.cell 1
        have c2 := hbh.cell 2
        have c3 := hbh.cell 3
        have c4 := hbh.cell 4
        have f0 := hbh.fr 0
        obtain ⟨m, hm⟩ : ∃ m, mn x = m := ⟨_, rfl⟩
        obtain ⟨M, hM⟩ : ∃ m, mx x = m := ⟨_, rfl⟩
        obtain ⟨s, hs⟩ : ∃ m, x.sum = m := ⟨_, rfl⟩
        simp only [hcs, hm, hM, hs, List.getElem?_toArray, List.getElem?_cons_zero, List.getElem?_cons_succ] at c0 c1 c2 c3 c4
        have HMS := Lib.hid (And.intro hm (And.intro hM hs))
        rcases (show q = 0 ∨ q = 1 ∨ q = 2 ∨ q = 3 by omega) with rfl | rfl | rfl | rfl
        · have b0 : wq.cell? ⟨g, 0, none⟩ = some (.iface 214 (.agg #[])) := hbk.cell 0
          have hm0 := meth_e0 wq
          have KE : Hid (∀ K W, Bel wq W → _) := fun K W (_ : Bel wq W) => kenc0 (some ⟨h, o, none⟩) k c K (k : Int) m M s W
          have e8 : (stt x 0).2.2 = false := rfl
          have e9 : (stt x 0).1 = 0 := rfl
          rw [e8]
          rw [e9] at c0 HH
          obtain rfl : N = 0 := hDl.symm
          clear hbh hb0 hbk hbe hrd hAc hDl hs
          rcases Classical.em (m = M) with hmm | hmm
          · have hmb : (m == M) = true := by simpa using hmm
            have hst : Hid (stt x 1 = (0, [], true)) := by show _ = _; unfold stt; rw [if_neg (by omega), if_pos rfl, decide_eq_true (by rw [HMS.out.1, HMS.out.2.1]; exact hmm)]
            unfold hdv at KE
            simp only [hmb] at KE
            clear hmb hmm hm hM
            go_wp2_with (go_at_call 204; refine (KE.out _ wq Bel.rf).mono ?_; rintro e w4 ⟨rfl, hb4⟩; have HB4 := Lib.hid hb4; have HH4 := Lib.hid (HH.out.bel hb4); have f4 := HH4.out.fr 0; have g4 := HH4.out.cell 0; simp only [hcs, HMS.out.1, HMS.out.2.1, HMS.out.2.2, List.getElem?_toArray, List.getElem?_cons_zero] at g4; clear hb4)
            go_roundw
            case rel =>
              have h9 := brel_st (k' := 1) (by omega) (hst.out : stt x 1 = (0, [], true)) rfl (Rd.nil _ none) (fun _ => rfl) HH4.out (HB0.out.bel HB4.out) (HBK.out.bel HB4.out) (HX.out.tr HB4.out) hgn
              first | exact h9 | simpa using h9
            case measure => first | (simp [intOf]; done) | (simp [intOf]; omega)
          · have hmb : (m == M) = false := by simpa using hmm
            have hst : Hid (stt x 1 = (0, [], false)) := by show _ = _; unfold stt; rw [if_neg (by omega), if_pos rfl, decide_eq_false (by rw [HMS.out.1, HMS.out.2.1]; exact hmm)]
            unfold hdv at KE
            simp only [hmb] at KE
            clear hmb hmm hm hM
            go_wp2_with (go_at_call 204; refine (KE.out _ wq Bel.rf).mono ?_; rintro e w4 ⟨rfl, hb4⟩; have HB4 := Lib.hid hb4; have HH4 := Lib.hid (HH.out.bel hb4); have f4 := HH4.out.fr 0; have g4 := HH4.out.cell 0; simp only [hcs, HMS.out.1, HMS.out.2.1, HMS.out.2.2, List.getElem?_toArray, List.getElem?_cons_zero] at g4; clear hb4)
            go_roundw
            case rel =>
              have h9 := brel_no (k' := 1) (by omega) (hst.out : stt x 1 = (0, [], false)) rfl (Rd.nil _ A) HAC.out HH4.out (HB0.out.bel HB4.out) (HBK.out.bel HB4.out) (HX.out.tr HB4.out)
              first | exact h9 | simpa using h9
            case measure => first | (simp [intOf]; done) | (simp [intOf]; omega)
        · have b0 : wq.cell? ⟨g, 1, none⟩ = some (.iface 215 (.agg #[])) := hbk.cell 1
          have hm0 := meth_e1 wq
          have KE : Hid (∀ K W, Bel wq W → _) := fun K W hW => kenc1' (some ⟨h, o, none⟩) c k x HV.out HN.out K (k : Int) s W (HZ.out.bel (HX.out.tr hW))
          rw [hm, hM] at KE
          have e9 : (stt x 1).1 = 0 := rfl
          have eD : (stt x 1).2.1 = [] := rfl
          rw [e9] at c0 HH
          obtain rfl : N = 0 := by rw [← hDl, eD]; rfl
          clear hbh hb0 hbk hbe hrd hAc hDl hs eD
          rcases Classical.em (m = M) with hmm | hmm
          · have e8 : (stt x 1).2.2 = true := decide_eq_true (by rw [HMS.out.1, HMS.out.2.1]; exact hmm)
            rw [e8]
            have hst : Hid (stt x 2 = (0, [], true)) := by show _ = _; unfold stt; rw [if_neg (by omega), if_neg (by omega), if_pos rfl, if_pos (by rw [HMS.out.1, HMS.out.2.1]; exact hmm)]
            unfold hdv at KE
            clear e8 hmm hm hM
            go_wp2_with (go_at_call 206; refine (KE.out _ wq Bel.rf).mono ?_; rintro e w4 ⟨A4, N4, c4', rfl, hN4, hr4, hA4, hb4⟩; have HR4 := Lib.hid (And.intro hN4 (And.intro hr4 hA4)); clear hr4 hN4 hA4; have q4 : ¬ (N4 : Int) < 0 := (by omega); have HB4 := Lib.hid hb4; have HH4 := Lib.hid (HH.out.bel hb4); have f4 := HH4.out.fr 0; have g4 := HH4.out.cell 0; simp only [hcs, HMS.out.1, HMS.out.2.1, HMS.out.2.2, List.getElem?_toArray, List.getElem?_cons_zero] at g4; clear hb4)
            go_roundw
            case rel =>
              have h9 := brel_no (k' := 2) (by omega) (hst.out : stt x 2 = (0, [], true)) rfl (Rd.nil _ A) HAC.out HH4.out (HB0.out.bel HB4.out) (HBK.out.bel HB4.out) (HX.out.tr HB4.out)
              first | exact h9 | simpa using h9
            case measure => first | (simp [intOf]; done) | (simp [intOf]; omega)
          · have e8 : (stt x 1).2.2 = false := decide_eq_false (by rw [HMS.out.1, HMS.out.2.1]; exact hmm)
            rw [e8]
            have hst : Hid (stt x 2 = (1, pd x, true)) := by show _ = _; unfold stt; rw [if_neg (by omega), if_neg (by omega), if_pos rfl, if_neg (by rw [HMS.out.1, HMS.out.2.1]; exact hmm)]
            unfold hdv at KE
            clear e8 hmm hm hM
            go_wp2_with (go_at_call 206; refine (KE.out _ wq Bel.rf).mono ?_; rintro e w4 ⟨A4, N4, c4', rfl, hN4, hr4, hA4, hb4⟩; have HR4 := Lib.hid (And.intro hN4 (And.intro hr4 hA4)); clear hr4 hN4 hA4; have HB4 := Lib.hid hb4; have HH4 := Lib.hid (HH.out.bel hb4); have f4 := HH4.out.fr 0; have g4 := HH4.out.cell 0; simp only [hcs, HMS.out.1, HMS.out.2.1, HMS.out.2.2, List.getElem?_toArray, List.getElem?_cons_zero] at g4; clear hb4)
            go_roundw
            case rel =>
              have h9 := brel_st (k' := 2) (by omega) (hst.out : stt x 2 = (1, pd x, true)) HR4.out.1 HR4.out.2.1 HR4.out.2.2 HH4.out (HB0.out.bel HB4.out) (HBK.out.bel HB4.out) (HX.out.tr HB4.out) hgn
              first | exact h9 | simpa using h9
            case measure => first | (simp [intOf]; done) | (simp [intOf]; omega)
        · have b0 : wq.cell? ⟨g, 2, none⟩ = some (.iface 216 (.agg #[])) := hbk.cell 2
          have hm0 := meth_e2 wq
          have KE : Hid (∀ K W, Bel wq W → _) := fun K W hW => kenc2 (some ⟨h, o, none⟩) c k x HV.out HN.out K (k : Int) m M s W (HZ.out.bel (HX.out.tr hW))
          have e8 : (stt x 2).2.2 = true := by unfold stt; rw [if_neg (by omega), if_neg (by omega), if_pos rfl]; split <;> rfl
          rw [e8]
          rcases Classical.em (m = M) with hmm | hmm
          · have hs2 : stt x 2 = (0, [], true) := by unfold stt; rw [if_neg (by omega), if_neg (by omega), if_pos rfl, if_pos (by rw [HMS.out.1, HMS.out.2.1]; exact hmm)]
            have hst : Hid (stt x 3 = (0, [], true)) := by show _ = _; unfold stt kd dt; rw [if_neg (by omega), if_neg (by omega), if_neg (by omega), if_pos (by rw [HMS.out.1, HMS.out.2.1]; exact hmm), if_pos (by rw [HMS.out.1, HMS.out.2.1]; exact hmm)]
            rw [hs2] at c0 HH hDl HRD
            obtain rfl : N = 0 := hDl.symm
            unfold hdv at KE
            clear hbh hb0 hbk hbe hrd hAc hDl hs e8 hs2 hmm hm hM
            go_wp2_with (go_at_call 217; refine (KE.out _ wq Bel.rf).mono ?_; rintro e w4 ⟨A4, N4, c4', rfl, hN4, hr4, hA4, hb4⟩; have HR4 := Lib.hid (And.intro hN4 (And.intro hr4 hA4)); clear hr4 hA4; clear hN4; have q4 : ¬ (N4 : Int) < 0 := (by omega); have HB4 := Lib.hid hb4; have HH4 := Lib.hid (HH.out.bel hb4); have f4 := HH4.out.fr 0; have g4 := HH4.out.cell 0; simp only [hcs, HMS.out.1, HMS.out.2.1, HMS.out.2.2, List.getElem?_toArray, List.getElem?_cons_zero] at g4; clear hb4)
            go_roundw
            case rel =>
              have h9 := brel_no (k' := 3) (by omega) (hst.out : stt x 3 = (0, [], true)) rfl (Rd.nil _ A) HAC.out HH4.out (HB0.out.bel HB4.out) (HBK.out.bel HB4.out) (HX.out.tr HB4.out)
              first | exact h9 | simpa using h9
            case measure => first | (simp [intOf]; done) | (simp [intOf]; omega)
          · have hs2 : stt x 2 = (1, pd x, true) := by unfold stt; rw [if_neg (by omega), if_neg (by omega), if_pos rfl, if_neg (by rw [HMS.out.1, HMS.out.2.1]; exact hmm)]
            have hxm : ¬ mn x = mx x := by rw [HMS.out.1, HMS.out.2.1]; exact hmm
            rw [hs2] at c0 HH hDl HRD
            have HDN : Hid ((pd x).length = N) := hDl
            unfold hdv at KE
            clear hbh hb0 hbk hbe hrd hAc hs e8 hs2 hmm hm hM
            rcases Nat.lt_or_ge (dd x).length (pd x).length with hll | hll
            · have hst : Hid (stt x 3 = (2, dd x, true)) := by show _ = _; unfold stt kd dt; rw [if_neg (by omega), if_neg (by omega), if_neg (by omega), if_neg hxm, if_neg hxm, if_pos hll, if_pos hll]
              have hll2 : (dd x).length < N := by rw [← HDN.out]; exact hll
              clear hxm hll hDl
              go_wp2_with (go_at_call 217; refine (KE.out _ wq Bel.rf).mono ?_; rintro e w4 ⟨A4, N4, c4', rfl, hN4, hr4, hA4, hb4⟩; have HR4 := Lib.hid (And.intro hN4 (And.intro hr4 hA4)); clear hr4 hA4; have q4 : (N4 : Int) < (N : Int) := (by omega); clear hN4; have HB4 := Lib.hid hb4; have HH4 := Lib.hid (HH.out.bel hb4); have f4 := HH4.out.fr 0; have g4 := HH4.out.cell 0; simp only [hcs, HMS.out.1, HMS.out.2.1, HMS.out.2.2, List.getElem?_toArray, List.getElem?_cons_zero] at g4; clear hb4)
              go_roundw
              case rel =>
                have h9 := brel_st (k' := 3) (by omega) (hst.out : stt x 3 = (2, dd x, true)) HR4.out.1 HR4.out.2.1 HR4.out.2.2 HH4.out (HB0.out.bel HB4.out) (HBK.out.bel HB4.out) (HX.out.tr HB4.out) hgn
                first | exact h9 | simpa using h9
              case measure => first | (simp [intOf]; done) | (simp [intOf]; omega)
            · have hst : Hid (stt x 3 = (1, pd x, true)) := by show _ = _; unfold stt kd dt; rw [if_neg (by omega), if_neg (by omega), if_neg (by omega), if_neg hxm, if_neg hxm, if_neg (by omega), if_neg (by omega)]
              have hll2 : N ≤ (dd x).length := by rw [← HDN.out]; exact hll
              clear hxm hll hDl
              go_wp2_with (go_at_call 217; refine (KE.out _ wq Bel.rf).mono ?_; rintro e w4 ⟨A4, N4, c4', rfl, hN4, hr4, hA4, hb4⟩; have HR4 := Lib.hid (And.intro hN4 (And.intro hr4 hA4)); clear hr4 hA4; have q4 : ¬ (N4 : Int) < (N : Int) := (by omega); clear hN4; have HB4 := Lib.hid hb4; have HH4 := Lib.hid (HH.out.bel hb4); have f4 := HH4.out.fr 0; have g4 := HH4.out.cell 0; simp only [hcs, HMS.out.1, HMS.out.2.1, HMS.out.2.2, List.getElem?_toArray, List.getElem?_cons_zero] at g4; clear hb4)
              go_roundw
              case rel =>
                have h9 := brel_no (k' := 3) (by omega) (hst.out : stt x 3 = (1, pd x, true)) HDN.out (HRD.out.bel HB4.out) HAC.out HH4.out (HB0.out.bel HB4.out) (HBK.out.bel HB4.out) (HX.out.tr HB4.out)
                first | exact h9 | simpa using h9
              case measure => first | (simp [intOf]; done) | (simp [intOf]; omega)
        · have e9 : stt x 3 = (kd x, dt x, true) := rfl
          rw [e9] at c0 HH hDl HRD
          have d0 := hb0.cell 0
          have d1 := hb0.cell 1
          have d2 := hb0.cell 2
          have d3 := hb0.cell 3
          have d4 := hb0.cell 4
          have y0 := hb0.fr 0
          have y1 := hb0.fr 1
          have y2 := hb0.fr 2
          have y3 := hb0.fr 3
          have y4 := hb0.fr 4
          simp only [hcs, List.getElem?_toArray, List.getElem?_cons_zero, List.getElem?_cons_succ] at d0 d1 d2 d3 d4
          have HDN : Hid ((dt x).length = N) := hDl
          have HFN := Lib.hid (((((HB0.out.st 0 (.int .i64 (kd x : Int))).st 1 (.int .i64 (k : Int))).st 2 (.int .i64 m)).st 3 (.int .i64 M)).st 4 (.int .i64 s))
          have HFB := Lib.hid (((((HX.out.st (Nat.le_refl _) (.int .i64 (kd x : Int)) : Bel w (wq.setCell ⟨w.heap.size, 0, none⟩ _)).st (Nat.le_refl _) (.int .i64 (k : Int)) : Bel w (World.setCell _ ⟨w.heap.size, 1, none⟩ _)).st (Nat.le_refl _) (.int .i64 m) : Bel w (World.setCell _ ⟨w.heap.size, 2, none⟩ _)).st (Nat.le_refl _) (.int .i64 M) : Bel w (World.setCell _ ⟨w.heap.size, 3, none⟩ _)).st (Nat.le_refl _) (.int .i64 s) : Bel w (World.setCell _ ⟨w.heap.size, 4, none⟩ _))
          clear hbh hb0 hbk hbe hrd hAc hDl hs e9 hm hM
          go_wp2
          refine bodyPost_ret (v := .tuple #[hdv (kd x : Int) (k : Int) m M s, .slice A N c7]) (results_h Tryz.results96 _ _ w.heap.size (kd x : Int) (k : Int) m M s rfl HFN.out) rfl ?_
          have hr1 := rd_cs HRD.out HB0.out (i := 0) (z := 0) rfl (.int .i64 (kd x : Int))
          have hr2 := rd_cs hr1 (HB0.out.st 0 _) (i := 1) (z := 0) rfl (.int .i64 (k : Int))
          have hr3 := rd_cs hr2 ((HB0.out.st 0 _).st 1 _) (i := 2) (z := 0) rfl (.int .i64 m)
          have hr4 := rd_cs hr3 (((HB0.out.st 0 _).st 1 _).st 2 _) (i := 3) (z := 0) rfl (.int .i64 M)
          have hr5 := rd_cs hr4 ((((HB0.out.st 0 _).st 1 _).st 2 _).st 3 _) (i := 4) (z := 0) rfl (.int .i64 s)
          exact ⟨A, N, c7, by rw [HN.out, HMS.out.1, HMS.out.2.1, HMS.out.2.2], HDN.out, hr5, HAC.out, HFB.out⟩
end Go.Proofs.YtpbnabibnkohdaaGreatDoor.Sg
namespace Go.Proofs.YtpbnabibnkohdaaGreatDoor.Sg
open Go.ChangeShapes Go.WideShapes Go.RowKit Wo Sr Wi Cd Cr By Pk Bm
set_option linter.unusedVariables false
theorem crc_lt (B : List Nat) (h : ∀ c ∈ B, c < 256) : crc B < 4294967296 := by
  have := reg_lt h
  unfold crc
  omega
set_option maxHeartbeats 2000000 in
theorem seal_ok (A : Option Addr) (c n : Nat) (B : List Nat) (hn : B.length = n) (hB : n ≤ 140737488355000) (w : World) (hr : Rd w A n B) :
    Calls Tryz.prog 98 #[.slice A n c] w fun e w' => ∃ h : Nat, e = .returned (.slice (some ⟨h, 0, none⟩) 4 4) ∧ w.heap.size ≤ h ∧ Bk w' h 5 (bys (seal4 (crc B))).toArray ∧ Bel w w' := by
  subst hn
  have hx := crc_lt B hr.2.1
  have HS : Hid (∀ W, Bel w W → _) := fun W hW => sum_any A c B hB W (hr.bel hW)
  obtain ⟨x, hxx⟩ : ∃ x, crc B = x := ⟨_, rfl⟩
  rw [hxx] at hx HS ⊢
  clear hr hxx
  go_enter Tryz.func98, Tryz.ntmps98
  go_wp2_with fail
  go_at_call 125
  refine (HS.out _ (by first | exact Bel.rf | exact Bel.rf.drwN _)).mono ?_
  rintro e w1 ⟨rfl, hb⟩
  go_wp2
  go_ret
  refine ⟨_, rfl, hb.size, ?_, hb.al _⟩
  have e : (bys (seal4 x)).toArray = #[Value.int .u8 ((x : Int) % 256), Value.int .u8 ((x : Int) / 256 % 256), Value.int .u8 ((x : Int) / 65536 % 256), Value.int .u8 ((x : Int) / 16777216)] := by
    have h4 : x / 16777216 % 256 = x / 16777216 := by omega
    simp [bys, seal4, h4]
  rw [e]
  exact Bk.nw _ _ _
/-- 'string(b)' where b reads as L -/
theorem run_str {P : Program} (w : World) (src dst e : TypeId) (A : Option Addr) (n c : Nat) (L : List Nat) (hs : P.underlying src = some (.slice e)) (he : P.underlying e = some (.int .u8)) (hd : P.underlying dst = some .string) (hr : Rd w A n L) :
    (convert src dst (.slice A n c)).run P w = .ok (.string ⟨(L.map fun x => UInt8.ofNat x).toArray⟩) w := by
  rcases Nat.eq_zero_or_pos n with h0 | h0
  · have hL : L = [] := List.eq_nil_of_length_eq_zero (by rw [hr.1]; exact h0)
    subst h0 hL
    cases A with
    | none => exact run_convert_bytes_nil w src e hs he 0 c dst hd
    | some a =>
      have := run_convert_bytes_back (P := P) w src dst e a c [] hs he hd (fun j hj => by simp at hj)
      simpa using this
  · obtain ⟨a, rfl, hb, hc⟩ := hr.2.2 h0
    have hlen : (L.map fun x => UInt8.ofNat x).length = n := by simp [hr.1]
    have := run_convert_bytes_back (P := P) w src dst e a c (L.map fun x => UInt8.ofNat x) hs he hd (fun j hj => by
      rw [hlen] at hj
      rw [hc j hj]
      have hjl : j < L.length := by rw [hr.1]; exact hj
      have hx := hr.2.1 _ (List.getElem_mem hjl)
      simp only [List.getElem_map, UInt8.toNat_ofNat', List.getD_eq_getElem?_getD, List.getElem?_eq_getElem hjl, Option.getD_some]
      rw [Nat.mod_eq_of_lt (by simpa using hx)])
    rwa [hlen] at this
theorem rd_take {w : World} {A : Option Addr} {n : Nat} {L : List Nat} (h : Rd w A n L) (m : Nat) (hm : m ≤ n) : Rd w A m (L.take m) := by
  refine ⟨by rw [List.length_take]; have := h.1; omega, fun c hc => h.2.1 c (List.mem_of_mem_take hc), fun hp => ?_⟩
  obtain ⟨ad, e, hb, hc⟩ := h.2.2 (by omega)
  exact ⟨ad, e, hb, fun j hj => by rw [hc j (by omega)]; simp [List.getD_eq_getElem?_getD, hj]⟩
def sb (L : List Nat) : ByteArray := ⟨(L.map fun x => UInt8.ofNat x).toArray⟩
theorem sb_inj {L M : List Nat} (hL : ∀ c ∈ L, c < 256) (hM : ∀ c ∈ M, c < 256) (h : sb L = sb M) : L = M := by
  have h1 : (L.map fun x => UInt8.ofNat x).toArray = (M.map fun x => UInt8.ofNat x).toArray := congrArg ByteArray.data h
  have h2 : (L.map fun x => UInt8.ofNat x) = (M.map fun x => UInt8.ofNat x) := by simpa using h1
  have h3 : ∀ (K : List Nat), (∀ c ∈ K, c < 256) → (K.map fun x => UInt8.ofNat x).map UInt8.toNat = K := fun K hK => by
    rw [List.map_map]
    conv => rhs; rw [← List.map_id K]
    refine List.map_congr_left fun x hx => ?_
    have := hK x hx
    simp [Function.comp]
    omega
  rw [← h3 L hL, ← h3 M hM, h2]
theorem str_rd {w : World} {A : Option Addr} {n c : Nat} {L : List Nat} (hr : Rd w A n L) : (convert 112 9 (.slice A n c)).run Tryz.prog w = .ok (.string (sb L)) w :=
  run_str w 112 9 5 A n c L Tryz.underlying112 Tryz.underlying5 Tryz.underlying9 hr
theorem ba_ne {a b : ByteArray} (h : ¬ a = b) : ¬ a.toList = b.toList := fun e => h (Go.WideShapes.bytes_inj (by rw [← Go.ByteArray.toList_eq, ← Go.ByteArray.toList_eq]; exact e))
theorem sb_eq {L M : List Nat} (hL : ∀ c ∈ L, c < 256) (hM : ∀ c ∈ M, c < 256) : ((sb L).toList == (sb M).toList) = decide (L = M) := by
  rcases Classical.em (L = M) with h | h
  · subst h; simp
  · rw [decide_eq_false h]
    have := ba_ne (a := sb L) (b := sb M) (fun e => h (sb_inj hL hM e))
    simpa using this
theorem equal_ok (A A' : Option Addr) (c c' n n' : Nat) (L M : List Nat) (w : World) (h1 : Rd w A n L) (h2 : Rd w A' n' M) :
    Calls Tryz.prog 102 #[.slice A n c, .slice A' n' c'] w fun e w' => e = .returned (.bool (decide (L = M))) ∧ w = w' := by
  have s1 := str_rd (c := c) h1
  have s2 := str_rd (c := c') h2
  rw [← sb_eq h1.2.1 h2.2.1]
  obtain ⟨S1, hS1⟩ : ∃ S, sb L = S := ⟨_, rfl⟩
  obtain ⟨S2, hS2⟩ : ∃ S, sb M = S := ⟨_, rfl⟩
  rw [hS1] at s1 ⊢
  rw [hS2] at s2 ⊢
  clear hS1 hS2 h1 h2
  go_enter Tryz.func102, Tryz.ntmps102
  go_wp2
  go_ret
  exact ⟨by first | rfl | simp, rfl⟩
set_option maxHeartbeats 4000000 in
theorem holds_okg (ad : Addr) (c n E : Nat) (P : List Nat) (hE : E + 4 = n) (hn2 : n ≤ 1000000) (hc : n ≤ c) (hc2 : c ≤ maxLen) (w : World) (h1 : Rd w (some ad) n P) :
    Calls Tryz.prog 100 #[.slice (some ad) n c] w fun e w' => e = .returned (.bool (decide (seal4 (crc (P.take E)) = P.drop E))) ∧ Bel w w' := by
  have HS : Hid (∀ W, Bel w W → _) := fun W hW => seal_ok (some ad) c E (P.take E) (by rw [List.length_take, h1.1]; omega) (by omega) W ((rd_take h1 E (by omega)).bel hW)
  have HD : Hid (∀ W, Bel w W → Rd W (some (ad.add E)) 4 (P.drop E)) := fun W hW => by
    have := rd_dropg (h1.bel hW) E (by omega)
    rwa [show n - E = 4 by omega] at this
  have HQ : Hid (∀ (g x : Nat) W, Bk W g 5 (bys (seal4 (crc (P.take E)))).toArray → Bel w W → _) := fun g x W hg hW => equal_ok (some ⟨g, 0, none⟩) (some (ad.add E)) 4 x 4 4 (seal4 (crc (P.take E))) (P.drop E) W (rd_bk hg (seal4_byte _) 4 rfl) (HD.out W hW)
  obtain ⟨b, hb⟩ : ∃ b, decide (seal4 (crc (P.take E)) = P.drop E) = b := ⟨_, rfl⟩
  rw [hb] at HQ ⊢
  have e0 : (n : Int) - 4 = (E : Int) := by omega
  have e1 : (0 : Int) ≤ (E : Int) := by omega
  have e2 : (E : Int) ≤ (c : Int) := by omega
  have e3 : (E : Int) ≤ (n : Int) := by omega
  have e4 : n - E = 4 := by omega
  have e5 : ¬ c = E := by omega
  have e6 : E ≤ c := by omega
  have e7 : (n : Int) ≤ (c : Int) := by omega
  have ni : (n : Int) ≤ 1000000 := by omega
  clear h1 hb hE hc hc2 hn2
  go_enter Tryz.func100, Tryz.ntmps100
  go_wp2_with fail
  go_region_held3 (fun w' => Bel w w') ((repeat (first | exact HB1.out | exact Bel.rf | (with_reducible refine Bel.drwN ?_ _) | (with_reducible refine Bel.drw ?_)))) (first
    | (go_at_call 98; refine (HS.out _ (by repeat (first | exact Bel.rf | (with_reducible refine Bel.drwN ?_ _) | (with_reducible refine Bel.drw ?_)))).mono ?_; rintro e w1 ⟨g, rfl, hg, hk, hb1⟩; have HB1 : Hid (Bel w w1) := (by first | exact hb1 | exact Bel.rf.drw.tr hb1 | exact (Bel.rf.drwN _).tr hb1); have HK := Lib.hid hk; clear hk hb1)
    | (go_at_call 102; refine (HQ.out _ _ _ (by first | exact HK.out | exact HK.out.drw | exact HK.out.drwN _) (by first | exact HB1.out | exact HB1.out.drw | exact HB1.out.drwN _)).mono ?_; rintro e w2 ⟨rfl, rfl⟩))
  all_goals
    go_wp2
    go_ret
    exact ⟨rfl, by first | exact HB1.out | exact HB1.out.drw | exact HB1.out.drwN _⟩
theorem dam {B : List Nat} {i x : Nat} (hB : ∀ c ∈ B, c < 256) (hx : x < 256) (hi : i < (B ++ seal4 (crc B)).length) (hne : (B ++ seal4 (crc B)).getD i 0 ≠ x) :
    ¬ seal4 (crc (((B ++ seal4 (crc B)).set i x).take B.length)) = ((B ++ seal4 (crc B)).set i x).drop B.length := by
  rw [List.set_append]
  rcases Nat.lt_or_ge i B.length with h | h
  · rw [if_pos h]
    have e1 : (B.set i x ++ seal4 (crc B)).take B.length = B.set i x := by
      rw [List.take_append_of_le_length (by simp), List.take_of_length_le (by simp)]
    have e2 : (B.set i x ++ seal4 (crc B)).drop B.length = seal4 (crc B) := by
      have := List.drop_left (l₁ := B.set i x) (l₂ := seal4 (crc B))
      rwa [List.length_set] at this
    rw [e1, e2]
    intro he
    have hs : ∀ c ∈ B.set i x, c < 256 := fun c hc => by
      rcases List.mem_or_eq_of_mem_set hc with h2 | h2
      · exact hB c h2
      · omega
    refine crc_set (l := B) (i := i) (d := x) hB h hx (fun e => hne ?_) (seal4_inj (crc_lt _ hs) (crc_lt _ hB) he)
    rw [List.getD_eq_getElem?_getD, List.getElem?_append_left h, List.getElem?_eq_getElem h]
    exact e
  · rw [if_neg (by omega)]
    have e1 : (B ++ (seal4 (crc B)).set (i - B.length) x).take B.length = B := List.take_left
    have e2 : (B ++ (seal4 (crc B)).set (i - B.length) x).drop B.length = (seal4 (crc B)).set (i - B.length) x := List.drop_left
    rw [e1, e2]
    intro he
    have hl : i - B.length < (seal4 (crc B)).length := by rw [List.length_append] at hi; omega
    have h3 : ((seal4 (crc B)).set (i - B.length) x).getD (i - B.length) 0 = x := by
      rw [List.getD_eq_getElem?_getD, List.getElem?_set_self hl]; rfl
    rw [← he] at h3
    apply hne
    rw [List.getD_eq_getElem?_getD, List.getElem?_append_right h, ← List.getD_eq_getElem?_getD]
    exact h3
theorem rd_set {w : World} {base cap h n : Nat} {e : TypeId} {L : List Nat} {i x : Nat} (hr : w.ownsRow base e 1 (.slice (some ⟨h, 0, none⟩) n cap) n (bys L)) (hl : ∀ c ∈ L, c < 256) (hn : L.length = n) (hx : x < 256) :
    Rd (w.setCell ⟨h, i, none⟩ (.int .u8 (x : Int))) (some ⟨h, 0, none⟩) n (L.set i x) := by
  have hs := (hr.stored i (.int .u8 (x : Int))).1
  have e1 : (bys L).set i (.int .u8 (x : Int)) = bys (L.set i x) := by simp [bys]
  rw [e1] at hs
  refine Rd.own hs (fun c hc => ?_) (by simpa using hn)
  rcases List.mem_or_eq_of_mem_set hc with h | h
  · exact hl c h
  · omega
theorem xor_ne {a b : Nat} (hb : b ≠ 0) : a ≠ a ^^^ b := by
  intro h
  have := congrArg (a ^^^ ·) h
  simp [← Nat.xor_assoc] at this
  exact hb this.symm
theorem rd_in {A : Option Addr} {len cap : Nat} {zs : List Int} {w : World}
    (h : (A = none ∧ len = 0 ∧ cap = 0 ∧ zs = []) ∨ ∃ x, A = some x ∧ len ≤ cap ∧ cap ≤ maxLen ∧ zs.length = cap ∧ (∀ i, i < zs.length → w.cell? (x.add i) = some (.int .u8 (zs.getD i 0))) ∧ ∀ n ∈ zs, (Lit.int .u8 n).wf = true) :
    ∃ B : List Nat, B.length = len ∧ Rd w A len B ∧ (A = none → cap = 0) := by
  rcases h with ⟨rfl, rfl, rfl, rfl⟩ | ⟨x, rfl, hl, hm, hz, hc, hw⟩
  · exact ⟨[], rfl, Rd.nil _ _, fun _ => rfl⟩
  · have hlen : ((zs.take len).map Int.toNat).length = len := by simp; omega
    have hget : ∀ j, j < len → ((zs.take len).map Int.toNat).getD j 0 = (zs.getD j 0).toNat := fun j hj => by
      rw [List.getD_eq_getElem?_getD, List.getElem?_map, List.getElem?_take, if_pos hj, List.getD_eq_getElem?_getD, List.getElem?_eq_getElem (show j < zs.length by omega)]
      rfl
    have hb : ∀ n ∈ zs, 0 ≤ n ∧ n ≤ 255 := fun n hn => bounds_u8 (hw n hn)
    refine ⟨(zs.take len).map Int.toNat, hlen, ⟨hlen, fun c hcm => ?_, fun hn => ⟨x, rfl, ?_, fun j hj => ?_⟩⟩, fun h => by cases h⟩
    · simp only [List.mem_map] at hcm
      obtain ⟨n, hn, rfl⟩ := hcm
      have := hb n (List.mem_of_mem_take hn)
      omega
    · have := World.block_lt_of_cell? w _ (hc 0 (by omega))
      rwa [add_blk] at this
    · rw [hc j (by omega), hget j hj]
      have hj2 : j < zs.length := by omega
      have := hb (zs.getD j 0) (by rw [List.getD_eq_getElem?_getD, List.getElem?_eq_getElem hj2]; exact List.getElem_mem hj2)
      congr 2
      omega
end Go.Proofs.YtpbnabibnkohdaaGreatDoor.Sg
namespace Go.Proofs.YtpbnabibnkohdaaGreatDoor.Sg
open Go.ChangeShapes Go.WideShapes Go.RowKit Wo Bm By Cd Pk Cr
open Wi (Zi zi_bk)
open Sr (zs zs_at zs_len)
set_option linter.unusedVariables false
theorem sample_ok (n : Int) (h0 : -1000 ≤ n) (h1 : n ≤ 1000) (w : World) : Calls Tryz.prog 69 #[.int .i64 n] w fun e w' => e = .returned (.bool true) ∧ w = w' := by
  go_enter Tryz.func69, Tryz.ntmps69
  go_wp2
  go_ret
  exact ⟨rfl, rfl⟩
theorem sample_bad (n : Int) (h : n < -1000 ∨ 1000 < n) (w : World) : Calls Tryz.prog 69 #[.int .i64 n] w fun e w' => e = .returned (.bool false) ∧ w = w' := by
  rcases h with h | h
  · have h1 : ¬ -1000 ≤ n := by omega
    go_enter Tryz.func69, Tryz.ntmps69
    go_wp2
    go_ret
    exact ⟨rfl, rfl⟩
  · have h1 : ¬ n ≤ 1000 := by omega
    have h2 : -1000 ≤ n := by omega
    go_enter Tryz.func69, Tryz.ntmps69
    go_wp2
    go_ret
    exact ⟨rfl, rfl⟩
set_option maxHeartbeats 4000000 in
theorem samples_any (A : Option Addr) (c n : Nat) (L : List Int) (hn : n ≤ 1000000) (w : World) (h : Zi w A n L) :
    Calls Tryz.prog 50 #[.slice A n c] w fun e w' => (∃ b, e = .returned (.bool b) ∧ (b = true ↔ Wi.Sam L)) ∧ Bel w w' := by
  have H1 := Lib.hid h
  have hl := Lib.hid h.1
  have ni : (n : Int) ≤ 1000000 := by omega
  clear h
  go_enter Tryz.func50, Tryz.ntmps50
  go_wp2
  go_loopw [7] (fun s7 wr => ∃ (k : Nat) (V : World), V = wr ∧ k ≤ n ∧ s7 = .int .i64 (k : Int) ∧ (∀ j, j < k → -1000 ≤ L.getD j 0 ∧ L.getD j 0 ≤ 1000) ∧ Bel w wr) (fun s7 _ => n - (intOf s7).toNat)
  case atStart => exact ⟨0, _, rfl, by omega, rfl, fun j hj => by omega, Bel.rf⟩
  case round =>
    obtain ⟨k, wr, hwr, hk, rfl, hall, hb⟩ := hrel
    subst hwr
    have HB := Lib.hid hb
    have HAL := Lib.hid hall
    rcases Nat.lt_or_ge k n with hlt | hge
    · obtain ⟨ad, rfl, hab, hac⟩ := (H1.out.bel hb).2 (by omega)
      have c1 := hac k hlt
      obtain ⟨x, hxe⟩ : ∃ x, L.getD k 0 = x := ⟨_, rfl⟩
      rw [hxe] at c1
      have HXE := Lib.hid hxe
      have ki : (k : Int) < (n : Int) := by omega
      clear hb hac hab hxe hall
      rcases (show (x < -1000 ∨ 1000 < x) ∨ (-1000 ≤ x ∧ x ≤ 1000) by omega) with hx | ⟨x0, x1⟩
      · have HNO : Hid (¬ Wi.Sam L) := fun hs => by have := hs.at k; rw [HXE.out] at this; omega
        have SB := Lib.hid (fun W => sample_bad x hx W)
        clear hx
        go_wp2_with (go_at_call 69; refine (SB.out _).mono ?_; rintro e w' ⟨rfl, rfl⟩)
        go_ret
        exact ⟨⟨false, rfl, by simpa using HNO.out⟩, by first | exact HB.out | exact HB.out.drwN _ | exact HB.out.drw⟩
      · go_wp2_with (go_at_call 69; refine (sample_ok x x0 x1 _).mono ?_; rintro e w' ⟨rfl, rfl⟩)
        go_roundw
        case rel => exact ⟨k + 1, _, rfl, by omega, by go_num, fun j hj => by
          rcases Nat.lt_or_ge j k with h | h
          · exact HAL.out j h
          · obtain rfl : j = k := by omega
            rw [HXE.out]; exact ⟨x0, x1⟩, by first | exact HB.out | exact HB.out.drwN _ | exact HB.out.drw⟩
        case measure => simp [intOf]; omega
    · obtain rfl : k = n := by omega
      have HYES : Hid (Wi.Sam L) := fun y hy => by
        obtain ⟨i, hi, rfl⟩ := List.getElem_of_mem hy
        have := hall i (by have := hl.out; omega)
        simpa [List.getD_eq_getElem?_getD, hi] using this
      clear hb hall
      go_wp2
      go_ret
      exact ⟨⟨true, rfl, by simpa using HYES.out⟩, HB.out⟩
def nb (x : List Int) (k : Nat) : Int := if k = 0 then (x.length : Int) else if k = 1 then mn x else if k = 2 then mx x - mn x else x.sum
def prf (x : List Int) : Nat → List Nat
  | 0 => [kd x]
  | k + 1 => prf x k ++ bytesOf (nb x k)
theorem prf_all (x : List Int) : prf x 4 ++ dt x = bod x := by simp [prf, nb, bod]
theorem nb_in {x : List Int} (h : Vx x) (k : Nat) : In64 (nb x k) := by
  obtain ⟨a1, a2, a3, a4, _⟩ := heads_in h
  unfold nb
  split
  · exact a1
  · split
    · exact a2
    · split
      · exact a3
      · exact a4
theorem prf_len (x : List Int) : ∀ k, 1 ≤ (prf x k).length ∧ (prf x k).length ≤ 1 + 10 * k
  | 0 => by simp [prf]
  | k + 1 => by
    have := prf_len x k
    have := bytesOf_len (nb x k)
    simp only [prf, List.length_append]
    omega
def NRel (x : List Int) (g : Nat) (w0 : World) (s6 s42 : Value) (wr : World) : Prop := ∃ (k N : Nat) (V : World) (u : Value), V = wr ∧ u = s6 ∧ k ≤ 4 ∧ s42 = .int .i64 (k : Int) ∧ (prf x k).length = N ∧ wr.ownsRow w0.heap.size 5 1 s6 N (bys (prf x k)) ∧ Bel w0 wr ∧ Bk wr g 3 #[.int .i64 (nb x 0), .int .i64 (nb x 1), .int .i64 (nb x 2), .int .i64 (nb x 3)]
theorem own_bel1 {w w' : World} {base n : Nat} {v : Value} {xs : List Value} (h : w.ownsRow base 5 1 v n xs) (hb : Bel w w') : w'.ownsRow base 5 1 v n xs := Wi.own_bel h hb
theorem bk_own {w w' : World} {base n g : Nat} {v : Value} {xs : List Value} {cs : Array Value} (h : Bk w g 3 cs) (hg : w.grownBy w' v.ownBlock) (ho : w.ownsRow base 5 1 v n xs) : Bk w' g 3 cs := by
  refine (hg.block g h.lt (fun e => ?_)).trans h
  rcases ho.2 with ⟨rfl, _⟩ | ⟨g', cap, cur, rfl, _, hg', _⟩
  · cases e
  · cases e
    unfold Bk at h
    rw [h] at hg'
    cases hg'
theorem own_base {w : World} {B C n : Nat} {e : TypeId} {v : Value} {xs : List Value} (h : w.ownsRow B e 1 v n xs) (hc : C ≤ B) : w.ownsRow C e 1 v n xs := by
  refine ⟨h.1, ?_⟩
  rcases h.2 with hn | ⟨g, cap, cur, rfl, hb, rest⟩
  · exact .inl hn
  · exact .inr ⟨g, cap, cur, rfl, by omega, rest⟩
/-- what Encode gives of samples: a row of the call's own -/
def SomeSeg (D : List Nat) (w : World) (e : Ending) (w' : World) : Prop := ∃ (u : Value), e = .returned (.tuple #[u, .int .i64 0]) ∧ w'.ownsRow w.heap.size 5 1 u D.length (bys D) ∧ Bel w w'
set_option maxHeartbeats 4000000 in
set_option maxRecDepth 100000 in
theorem enc_ok (h o c n : Nat) (x : List Int) (hv : Vx x) (hn : x.length = n) (w : World) (hz : Zi w (some ⟨h, o, none⟩) n x) :
    Calls Tryz.prog 65 #[.slice (some ⟨h, o, none⟩) n c] w (SomeSeg (seg x) w) := by
  obtain ⟨j0, hi0, hz0, hz1, hz2⟩ := info_parts info_u8
  have HJ := Lib.hid (And.intro hi0 (And.intro hz0 (And.intro hz1 hz2)))
  clear hi0 hz0 hz1 hz2
  have hn1 : 1 ≤ n ∧ n ≤ 64 := by have := hv.1; have := hv.2.1; omega
  have HSA : Hid (∀ W, Bel w W → Calls Tryz.prog 50 #[.slice (some ⟨h, o, none⟩) n c] W fun e w' => e = .returned (.bool true) ∧ Bel W w') := fun W hb => by
    refine (samples_any _ c n x (by omega) W (hz.bel hb)).mono ?_
    rintro e w' ⟨⟨b, rfl, hbb⟩, hb'⟩
    rw [hbb.2 hv.2.2]
    exact ⟨rfl, hb'⟩
  have HBE : Hid (∀ W, Bel w W → Calls Tryz.prog 96 #[.slice (some ⟨h, o, none⟩) n c] W fun e w' => ∃ (A : Option Addr) (N c : Nat), e = .returned (.tuple #[.agg #[.int .i64 (kd x : Int), .int .i64 (n : Int), .int .i64 (mn x), .int .i64 (mx x), .int .i64 x.sum], .slice A N c]) ∧ (dt x).length = N ∧ Rd w' A N (dt x) ∧ (A = none → c = 0) ∧ Bel W w') := fun W hb => by
    have h9 := best_ok h o c n x hv hn W (hz.bel hb)
    unfold SomeBest hdv at h9
    rw [hn] at h9
    exact h9
  have HN := Lib.hid hn
  have HPN : Hid (∀ k W, _) := fun k W => putn (nb x k) (nb_in hv k) (bytesOf (nb x k)).length rfl W
  have HV := Lib.hid hv
  have HBL := Lib.hid (bod_len hv)
  have HBB := Lib.hid (bod_byte hv)
  have ni0 : ¬ (n : Int) < 1 := by omega
  have ni1 : ¬ 64 < (n : Int) := by omega
  obtain ⟨D, hD⟩ : ∃ D, mx x - mn x = D := ⟨_, rfl⟩
  have wD : wrap64 D = D := IntWalk.wrap64_in _ (by have := mn_in hv.2.2 hv.1; have := mx_in hv.2.2 hv.1; omega)
  have k256 : ((kd x : Nat) : Int) % 256 = (kd x : Int) := by have := kd_lt x; omega
  have hkl := kd_lt x
  have e0 : nb x 0 = (n : Int) := by rw [← hn]; rfl
  have e1 : nb x 1 = mn x := rfl
  have e2 : nb x 2 = D := hD
  have e3 : nb x 3 = x.sum := rfl
  have HE := Lib.hid (And.intro e0 (And.intro e1 (And.intro e2 e3)))
  clear hz hv hn e0 e1 e2 e3
  go_enter Tryz.func65, Tryz.ntmps65
  go_wp2_with (first
    | (go_at_call 50; refine (HSA.out _ (by first | exact Bel.rf | exact Bel.rf.drwN _)).mono ?_; rintro e w1 ⟨rfl, hb1⟩; have HB1 : Hid (Bel w w1) := (by first | exact hb1 | exact (Bel.rf.drwN _).tr hb1); clear hb1)
    | (go_at_call 96; refine (HBE.out _ (by first | exact HB1.out | exact HB1.out.drwN _)).mono ?_; rintro e w2 ⟨A2, N2, c2, rfl, hN2, hr2, hA2, hb2⟩; have HR2 := Lib.hid (And.intro hN2 (And.intro hr2 hA2)); have HB2 : Hid (Bel w w2) := (by first | exact HB1.out.tr hb2 | exact (HB1.out.drwN _).tr hb2); clear hN2 hr2 hA2 hb2))
  have HR0 : Hid (NRel x (w2.heap.size + 2) w2 (.slice (some ⟨w2.heap.size + 1, 0, none⟩) 1 1) (.int .i64 0) (((w2.alloc (.cells #[.int .i64 (kd x : Int), .int .i64 (n : Int), .int .i64 (mn x), .int .i64 (mx x), .int .i64 x.sum] 145)).alloc (.cells #[.int .u8 (kd x : Int)] 5)).alloc (.cells #[.int .i64 (n : Int), .int .i64 (mn x), .int .i64 D, .int .i64 x.sum] 3))) := by
    obtain ⟨e0, e1, e2, e3⟩ := HE.out
    refine ⟨0, 1, _, _, rfl, rfl, by omega, rfl, rfl, ?_, ((Bel.rf.al _).al _).al _, ?_⟩
    · have h9 := (World.ownsRow_lit (base := w2.heap.size) (e := 5) (size := 1) (w2.alloc (.cells #[.int .i64 (kd x : Int), .int .i64 (n : Int), .int .i64 (mn x), .int .i64 (mx x), .int .i64 x.sum] 145)) #[.int .u8 (kd x : Int)] 1 (by simp) (by unfold maxLen; omega) rfl).alloc (.cells #[.int .i64 (n : Int), .int .i64 (mn x), .int .i64 D, .int .i64 x.sum] 3)
      simpa [prf, bys] using h9
    · rw [e0, e1, e2, e3]; exact Bk.nq _ _ _ (by simp)
  (try simp only [wD])
  go_loopw [6, 42] (fun s6 s42 wr => NRel x (w2.heap.size + 2) w2 s6 s42 wr) (fun _ s42 _ => 4 - (intOf s42).toNat)
  case atStart => exact HR0.out
  case round =>
    clear HR0 HSA HBE
    obtain ⟨k, N, wr, u, hwr, hu, hk, rfl, hN, ho, hb, hbk⟩ := hrel
    subst hwr hu
    have HO := Lib.hid ho
    have HB := Lib.hid hb
    have HK := Lib.hid hbk
    have HNN := Lib.hid hN
    have hNb := prf_len x k
    rw [hN] at hNb
    rcases Nat.lt_or_ge k 4 with hlt | hge
    · have c1 : wr.cell? ⟨w2.heap.size + 2, k, none⟩ = some (.int .i64 (nb x k)) := by
        rw [hbk.cell k]
        rcases (show k = 0 ∨ k = 1 ∨ k = 2 ∨ k = 3 by omega) with rfl | rfl | rfl | rfl <;> rfl
      obtain ⟨z, hz⟩ : ∃ z, nb x k = z := ⟨_, rfl⟩
      have HP := HPN
      have hp := HPN.out k
      have hlen := bytesOf_len (nb x k)
      rw [hz] at c1 hp hlen
      have HPK := Lib.hid hp
      have HZ2 := Lib.hid hz
      obtain ⟨q, hq⟩ : ∃ q, (bytesOf z).length = q := ⟨_, rfl⟩
      rw [hq] at HPK hlen
      have HQ := Lib.hid hq
      have ki : (k : Int) < 4 := by omega
      clear HP hp hz hq ho hb hbk hN
      go_wp2_with (first
        | (go_at_call 97; refine (HPK.out _).mono ?_; rintro e w4 ⟨g4, rfl, ho4, hb4⟩; have HR4 : Hid (Rd w4 (some ⟨g4, 0, none⟩) q (bytesOf z)) := Rd.own ho4 (by rw [← HZ2.out]; exact bytesOf_byte (nb_in HV.out k)) HQ.out; have HB4 := Lib.hid hb4; have HO4 := Lib.hid (own_bel1 HO.out hb4); clear ho4 hb4)
        | (at_builtin; refine wpList_append_rd rfl (.tmp 46) (.tmp 48) 112 rfl w2.heap.size 5 j0 (.int .u8 0) Tryz.underlying112 HJ.out.1 HJ.out.2.1 HJ.out.2.2.1 HJ.out.2.2.2 rfl u N (bys (prf x k)) rfl HO4.out (some ⟨g4, 0, none⟩) q 10 (bytesOf z) rfl HR4.out (fun h => by cases h) (by omega) ((HB.out.tr HB4.out).size) ?_; intro u5 w5 ho5 hg5; have HO5 := Lib.hid ho5; have HB5 : Hid (Bel w2 w5) := (Below.grown (HB.out.tr HB4.out).bl hg5 ((HB.out.tr HB4.out).size) (fun b e => (HO.out.lt b e).1)); have HK5 : Hid (Bk w5 (w2.heap.size + 2) 3 #[.int .i64 (nb x 0), .int .i64 (nb x 1), .int .i64 (nb x 2), .int .i64 (nb x 3)]) := (bk_own (HK.out.bel HB4.out) hg5 HO4.out); clear ho5 hg5))
      go_roundw
      case rel => exact ⟨k + 1, N + q, _, _, rfl, rfl, by omega, by go_num, by rw [prf, List.length_append, HNN.out, HZ2.out, HQ.out], by rw [prf, HZ2.out, bys_app]; exact HO5.out, HB5.out, HK5.out⟩
      case measure => simp [intOf]; omega
    · obtain rfl : k = 4 := by omega
      have HA := Lib.hid (prf_all x)
      clear ho hb hbk hN HPN
      have h0 : 0 ≤ kd x := Nat.zero_le _
      obtain ⟨hd1, hd2, hd3⟩ := HR2.out
      have HD1 := Lib.hid hd1
      have HD2 := Lib.hid (hd2.bel HB.out)
      have HD3 := Lib.hid hd3
      have hdl := dt_len HV.out
      rw [hd1] at hdl
      have HBF : Hid ((bod x).length = N + N2) := by show _ = _; rw [← HA.out, List.length_append, HNN.out, HD1.out]
      have hbl := HBL.out
      rw [HBF.out] at hbl
      clear hd1 hd2 hd3
      go_wp2_with (first
        | (at_builtin; refine wpList_append_rd rfl (.tmp 51) (.tmp 52) 112 rfl w2.heap.size 5 j0 (.int .u8 0) Tryz.underlying112 HJ.out.1 HJ.out.2.1 HJ.out.2.2.1 HJ.out.2.2.2 rfl u N (bys (prf x 4)) rfl HO.out A2 N2 c2 (dt x) rfl HD2.out HD3.out (by omega) HB.out.size ?_; intro u5 w5 ho5 hg5; have HO5 : Hid (w5.ownsRow w2.heap.size 5 1 u5 (N + N2) (bys (bod x))) := (by have h9 := ho5; rw [← bys_app, HA.out] at h9; exact h9); have HB5 : Hid (Bel w2 w5) := (Below.grown HB.out.bl hg5 HB.out.size (fun b e => (HO.out.lt b e).1)); clear ho5 hg5; obtain ⟨g5, c5, rfl, hc5, hm5, hg5, hr5⟩ := own_rd HO5.out HBB.out HBF.out (by omega); have HR5 := Lib.hid hr5; clear hr5)
        | (go_at_call 98; go_loud (refine (seal_ok (some ⟨g5, 0, none⟩) c5 (N + N2) (bod x) HBF.out (by omega) _ HR5.out).mono ?_; rintro e w6 ⟨g6, rfl, hg6, hk6, hb6⟩; have HR6 : Hid (Rd w6 (some ⟨g6, 0, none⟩) 4 (seal4 (crc (bod x)))) := Pk.rd_bk hk6 (seal4_byte _) 4 rfl; have HB6 := Lib.hid hb6; have HO6 := Lib.hid (own_bel1 HO5.out hb6); clear hk6 hb6))
        | (at_builtin; refine wpList_append_rd rfl (.tmp 54) (.tmp 56) 112 rfl w2.heap.size 5 j0 (.int .u8 0) Tryz.underlying112 HJ.out.1 HJ.out.2.1 HJ.out.2.2.1 HJ.out.2.2.2 rfl (.slice (some ⟨g5, 0, none⟩) (N + N2) c5) (N + N2) (bys (bod x)) rfl HO6.out (some ⟨g6, 0, none⟩) 4 4 (seal4 (crc (bod x))) rfl HR6.out (fun h => by cases h) (by omega) ((HB5.out.tr HB6.out).size) ?_; intro u7 w7 ho7 hg7; have HO7 := Lib.hid ho7; have HB7 : Hid (Bel w2 w7) := (Below.grown (HB5.out.tr HB6.out).bl hg7 ((HB5.out.tr HB6.out).size) (fun b e => (HO6.out.lt b e).1)); clear ho7 hg7))
      go_ret2
      have h9 := HO7.out
      rw [← bys_app] at h9
      have hl9 : (seg x).length = N + N2 + 4 := by rw [(seg_len HV.out).2.2, HBF.out]
      refine ⟨_, rfl, ?_, HB2.out.tr HB7.out⟩
      rw [hl9]
      exact own_base h9 HB2.out.size
end Go.Proofs.YtpbnabibnkohdaaGreatDoor.Sg
namespace Go.Proofs.YtpbnabibnkohdaaGreatDoor.Sg
open Go.ChangeShapes Go.WideShapes Go.RowKit Wo Bm By Cd Pk Cr
open Wi (Zi zi_bk)
open Sr (zs zs_at zs_len)
set_option linter.unusedVariables false
set_option maxHeartbeats 1000000 in
theorem enc_bad (A : Option Addr) (c n : Nat) (L : List Int) (hn : n ≤ 1000000) (hv : ¬ Vx L) (w : World) (hz : Zi w A n L) :
    Calls Tryz.prog 65 #[.slice A n c] w fun e w' => ∃ er, e = .returned (.tuple #[.slice none 0 0, .int .i64 er]) ∧ er ≠ 0 ∧ Bel w w' := by
  have hl := hz.1
  rcases (show n < 1 ∨ 64 < n ∨ (1 ≤ n ∧ n ≤ 64) by omega) with h | h | ⟨h1, h2⟩
  · have e1 : (n : Int) < 1 := by omega
    clear hz hv
    go_enter Tryz.func65, Tryz.ntmps65
    go_wp2
    go_ret2
    exact ⟨8, rfl, by decide, Bel.rf⟩
  · have e1 : ¬ (n : Int) < 1 := by omega
    have e2 : 64 < (n : Int) := by omega
    clear hz hv
    go_enter Tryz.func65, Tryz.ntmps65
    go_wp2
    go_ret2
    exact ⟨8, rfl, by decide, Bel.rf⟩
  · have HSA : Hid (∀ W, Bel w W → Calls Tryz.prog 50 #[.slice A n c] W fun e w' => e = .returned (.bool false) ∧ Bel W w') := fun W hb => by
      refine (samples_any _ c n L (by omega) W (hz.bel hb)).mono ?_
      rintro e w' ⟨⟨b, rfl, hbb⟩, hb'⟩
      rcases b with _ | _
      · exact ⟨rfl, hb'⟩
      · exact (hv ⟨by omega, by omega, hbb.1 rfl⟩).elim
    have e1 : ¬ (n : Int) < 1 := by omega
    have e2 : ¬ 64 < (n : Int) := by omega
    clear hz hv
    go_enter Tryz.func65, Tryz.ntmps65
    go_wp2_with (go_at_call 50; refine (HSA.out _ (by first | exact Bel.rf | exact Bel.rf.drwN _)).mono ?_; rintro e w1 ⟨rfl, hb1⟩; have HB1 : Hid (Bel w w1) := (by first | exact hb1 | exact (Bel.rf.drwN _).tr hb1); clear hb1)
    go_ret2
    exact ⟨12, rfl, by decide, HB1.out⟩
/-- where the numbers of a body begin -/
def ats (P : List Nat) : Nat → Nat
  | 0 => 1
  | k + 1 => (dec P (ats P k)).2.1.toNat
def num (P : List Nat) (k : Nat) : Int := (dec P (ats P k)).1
theorem bod_nums {x : List Int} (h : Vx x) : num (bod x) 0 = (x.length : Int) ∧ num (bod x) 1 = mn x ∧ num (bod x) 2 = mx x - mn x ∧ (bod x).drop (ats (bod x) 4) = dt x ∧ (bod x).getD 0 0 = kd x ∧ (∀ k, k < 4 → (dec (bod x) (ats (bod x) k)).2.2 = 0) := by
  obtain ⟨p1, p2, p3, p4, e0, d1, d2, d3, d4, e5, l1, l2, l3, l4⟩ := bod_read h
  have a1 : ats (bod x) 1 = p1 := by show (dec (bod x) 1).2.1.toNat = p1; rw [d1]; rfl
  have a2 : ats (bod x) 2 = p2 := by show (dec (bod x) (ats (bod x) 1)).2.1.toNat = p2; rw [a1, d2]; rfl
  have a3 : ats (bod x) 3 = p3 := by show (dec (bod x) (ats (bod x) 2)).2.1.toNat = p3; rw [a2, d3]; rfl
  have a4 : ats (bod x) 4 = p4 := by show (dec (bod x) (ats (bod x) 3)).2.1.toNat = p4; rw [a3, d4]; rfl
  refine ⟨?_, ?_, ?_, by rw [a4, e5], e0, fun k hk => ?_⟩
  · show (dec (bod x) 1).1 = _; rw [d1]
  · show (dec (bod x) (ats (bod x) 1)).1 = _; rw [a1, d2]
  · show (dec (bod x) (ats (bod x) 2)).1 = _; rw [a2, d3]
  · rcases (show k = 0 ∨ k = 1 ∨ k = 2 ∨ k = 3 by omega) with rfl | rfl | rfl | rfl
    · show (dec (bod x) 1).2.2 = _; rw [d1]
    · rw [a1, d2]
    · rw [a2, d3]
    · rw [a3, d4]
theorem kd_zero {x : List Int} (h : kd x = 0) : mn x = mx x := by
  unfold kd at h
  split at h
  · assumption
  · split at h <;> omega
theorem kd_one {x : List Int} (h : kd x = 1) : dt x = pd x := by
  unfold kd at h
  unfold dt
  split at h
  · omega
  · rename_i h1
    split at h
    · omega
    · rename_i h2; rw [if_neg h1, if_neg h2]
theorem kd_two {x : List Int} (h : kd x = 2) : dt x = dd x := by
  unfold kd at h
  unfold dt
  split at h
  · omega
  · rename_i h1
    split at h
    · rename_i h2; rw [if_neg h1, if_pos h2]
    · omega
theorem kd_any (A : Option Addr) (c M n k0 : Nat) (P : List Nat) (K Lo G S : Int) (D : List Nat) (hn1 : 1 ≤ n) (hn : n ≤ 64) (hM : M ≤ 1000000) (hcc : M < c) (hcm : c ≤ 9223372036854775807) (w : World) (hr : Rd w A M D) (f : FuncId)
    (hk : (k0 = 0 ∧ f = 203) ∨ (k0 = 1 ∧ f = 205) ∨ (k0 = 2 ∧ f = 216)) :
    Calls Tryz.prog f #[.agg #[], .slice A M c, hdv K (n : Int) Lo G S] w (SomeKd (fun x => x.length = n ∧ Lo = mn x ∧ G = mx x ∧ D = dt x ∧ kd x = k0) w) := by
  rcases hk with ⟨rfl, rfl⟩ | ⟨rfl, rfl⟩ | ⟨rfl, rfl⟩
  · refine (kdec0 A M c n K Lo G S hn w).mono ?_
    rintro e w' ⟨a, rfl, ha, hz, hb⟩
    refine ⟨_, _, _, _, true, rfl, hz, hn, Nat.le_refl _, by unfold maxLen; omega, fun e => (by cases e), fun ad e => ⟨a, (by cases e; rfl), ha⟩, hb, fun x hx h => ⟨rfl, ?_⟩⟩
    obtain ⟨h1, h2, h3, h4, h5⟩ := h
    rw [all_eq (kd_zero h5), h1, h2]
  · refine (kdec1 A c M n D K Lo G S hn hM w hr).mono ?_
    rintro e w' ⟨A', m, c', L, b, rfl, hz, h1, h2, h3, h4, h5, hb, hq⟩
    exact ⟨A', m, c', L, b, rfl, hz, h1, h2, h3, h4, h5, hb, fun x hx h => hq x hx ⟨h.1, h.2.1, h.2.2.1, by rw [h.2.2.2.1, kd_one h.2.2.2.2]⟩⟩
  · refine (kdec2 A c M n D K Lo G S hn1 hn hM hcc hcm w hr).mono ?_
    rintro e w' ⟨A', m, c', L, b, rfl, hz, h1, h2, h3, h4, h5, hb, hq⟩
    exact ⟨A', m, c', L, b, rfl, hz, h1, h2, h3, h4, h5, hb, fun x hx h => hq x hx ⟨h.1, by rw [h.2.2.2.1, kd_two h.2.2.2.2]⟩⟩
end Go.Proofs.YtpbnabibnkohdaaGreatDoor.Sg
namespace Go.Proofs.YtpbnabibnkohdaaGreatDoor.Sg
open Go.ChangeShapes Go.WideShapes Go.RowKit Wo Bm By Cd Pk Cr
open Wi (Zi zi_bk)
open Sr (zs zs_at zs_len)
set_option linter.unusedVariables false
theorem meth_d0 (w : World) : (method 376 214 (.agg #[]) "shapesearch/segment.decode").run Tryz.prog w = .ok (203, .agg #[]) w := by kernel_rfl
theorem meth_d1 (w : World) : (method 376 215 (.agg #[]) "shapesearch/segment.decode").run Tryz.prog w = .ok (205, .agg #[]) w := by kernel_rfl
theorem meth_d2 (w : World) : (method 376 216 (.agg #[]) "shapesearch/segment.decode").run Tryz.prog w = .ok (216, .agg #[]) w := by kernel_rfl
def nmA (P : List Nat) (k : Nat) : Array Value := #[.int .i64 (if 0 < k then num P 0 else 0), .int .i64 (if 1 < k then num P 1 else 0), .int .i64 (if 2 < k then num P 2 else 0), .int .i64 (if 3 < k then num P 3 else 0)]
theorem nmA_set {P : List Nat} {k : Nat} (h : k < 4) : (nmA P k).setIfInBounds k (.int .i64 (num P k)) = nmA P (k + 1) := by
  rcases (show k = 0 ∨ k = 1 ∨ k = 2 ∨ k = 3 by omega) with rfl | rfl | rfl | rfl <;> simp [nmA]
def ORl (P : List Nat) (M g : Nat) (w : World) (s6 s20 : Value) (wr : World) : Prop := ∃ (k : Nat) (V : World), V = wr ∧ k ≤ 4 ∧ s20 = .int .i64 (k : Int) ∧ s6 = .int .i64 (ats P k : Int) ∧ ats P k ≤ M ∧ Bk wr g 191 (nmA P k) ∧ Bel w wr
theorem kd_none {Q : List Int → Prop} {w w' : World} (hb : Bel w w') (h : ∀ x, Vx x → Q x → False) : SomeKd Q w (.returned (.tuple #[.slice none 0 0, .bool false])) w' :=
  ⟨none, 0, 0, [], false, rfl, ⟨rfl, fun h => by omega⟩, by omega, by omega, by unfold maxLen; omega, fun _ => rfl, fun ad e => (by cases e), hb, fun x hx hq => (h x hx hq).elim⟩
set_option maxHeartbeats 4000000 in
set_option maxRecDepth 100000 in
theorem smp_ok (ad : Addr) (c M : Nat) (P : List Nat) (h5 : 5 ≤ M) (hM : M ≤ 1000000) (hcc : M < c) (hcm : c ≤ 9223372036854775807) (w : World) (hr : Rd w (some ad) M P) :
    Calls Tryz.prog 101 #[.slice (some ad) M c] w (SomeKd (fun x => P = bod x) w) := by
  have KK : Hid (∀ W, _) := fun W => kinds_ok W
  have HI : Hid (∀ k W, ats P k ≤ M → Bel w W → _) := fun k W hk hb => int_as (some ad) c P M (ats P k) hr.1 (dec P (ats P k)) rfl hk (by omega) W (hr.bel hb)
  have HR := Lib.hid hr
  have hb0 := hr.byte 0
  obtain ⟨ad', e, hab, hac⟩ := hr.2.2 (by omega)
  cases e
  have cp := hac 0 (by omega)
  rw [add_zero] at cp
  obtain ⟨b, hb⟩ : ∃ b, P.getD 0 0 = b := ⟨_, rfl⟩
  rw [hb] at cp hb0
  have HBN := Lib.hid hb
  have HCP := Lib.hid cp
  have mi : (0 : Int) < (M : Int) := by omega
  have bi : (b : Int) < 256 := by omega
  clear hr hac hab hb
  rcases Nat.lt_or_ge 2 b with hbig | hsm
  · have hbq : (3 : Int) ≤ (b : Int) := by omega
    have HNO : Hid (∀ x, Vx x → P = bod x → False) := fun x hx h => by
      have h1 := (bod_nums hx).2.2.2.2.1
      rw [← h, HBN.out] at h1
      have := kd_lt x
      omega
    clear cp
    go_enter Tryz.func101, Tryz.ntmps101
    go_wp2_with (go_at_call 123; refine (KK.out _).mono ?_; rintro e w1 ⟨g, rfl, hg, hk1, hb1⟩; have c1 := hb1.kp HCP.out; have HB1 := Lib.hid hb1; clear hk1 hb1)
    go_ret2
    exact kd_none HB1.out HNO.out
  · have hbq : ¬ (3 : Int) ≤ (b : Int) := by omega
    clear cp
    go_enter Tryz.func101, Tryz.ntmps101
    go_wp2_with (go_at_call 123; refine (KK.out _).mono ?_; rintro e w1 ⟨g, rfl, hg, hk1, hb1⟩; have c1 := hb1.kp HCP.out; have HB1 := Lib.hid hb1; have HK1 := Lib.hid hk1; clear hk1 hb1)
    have HR0 : Hid (ORl P M w1.heap.size w1 (.int .i64 1) (.int .i64 0) (w1.alloc (.cells (nmA P 0) 191))) := ⟨0, _, rfl, by omega, rfl, rfl, by show 1 ≤ M; omega, Bk.nw _ _ _, Bel.rf.al _⟩
    go_loopw [6, 20] (fun s6 s20 wr => ORl P M w1.heap.size w1 s6 s20 wr) (fun _ s20 _ => 4 - (intOf s20).toNat)
    case atStart => exact HR0.out
    case round =>
      clear HR0 KK c1
      obtain ⟨k, wr, hwr, hk, rfl, rfl, hat, hbn, hbe⟩ := hrel
      subst hwr
      have HN := Lib.hid hbn
      have HX := Lib.hid hbe
      rcases Nat.lt_or_ge k 4 with hlt | hge
      · have ki : (k : Int) < 4 := by omega
        have HII := Lib.hid (HI.out k wr hat (HB1.out.tr hbe))
        obtain ⟨d, hd⟩ : ∃ d, dec P (ats P k) = d := ⟨_, rfl⟩
        rw [hd] at HII
        obtain ⟨z, pk, er⟩ := d
        simp only [] at HII
        obtain ⟨a, ha⟩ : ∃ a, ats P k = a := ⟨_, rfl⟩
        rw [ha] at HII hat ⊢
        have HD := Lib.hid hd
        rcases Classical.em (er = 0) with her | her
        · subst her
          obtain ⟨hz64, p, rfl, hp0, hpl, _⟩ := dec_canon HR.out.2.1 (by rw [HR.out.1, ha]; exact hat) hd
          rw [HR.out.1] at hpl
          have f1 := hbn.fr k
          have hnu : num P k = z := by unfold num; rw [hd]
          have hatn : ats P (k + 1) = p := by show (dec P (ats P k)).2.1.toNat = p; rw [hd]; rfl
          have c2 : ∃ v, wr.cell? ⟨w1.heap.size, k, none⟩ = some (.int .i64 v) := by
            rw [hbn.cell k]
            rcases (show k = 0 ∨ k = 1 ∨ k = 2 ∨ k = 3 by omega) with rfl | rfl | rfl | rfl <;> exact ⟨_, rfl⟩
          obtain ⟨v, c2⟩ := c2
          have HST : Hid (Bk (wr.setCell ⟨w1.heap.size, k, none⟩ (.int .i64 z)) w1.heap.size 191 (nmA P (k + 1))) := by
            have h9 := hbn.st k (.int .i64 z)
            rw [← hnu, nmA_set hlt, hnu] at h9
            exact h9
          have HAT := Lib.hid (And.intro hatn hpl)
          clear hbn hbe hd hnu hatn ha hz64
          go_wp2_with (go_at_call 128; refine HII.out.mono ?_; rintro e w4 ⟨rfl, rfl⟩)
          go_roundw
          case rel => exact ⟨k + 1, _, rfl, by omega, by go_num, by rw [HAT.out.1], by rw [HAT.out.1]; exact HAT.out.2, HST.out, HX.out.st (Nat.le_refl _) _⟩
          case measure => simp [intOf]; omega
        · have hq : (er != 0) = true := by simpa using her
          have HNO : Hid (∀ x, Vx x → P = bod x → False) := fun x hx h => by
            have h1 := (bod_nums hx).2.2.2.2.2 k hlt
            rw [← h, HD.out] at h1
            exact her h1
          clear hbn hbe hd ha her
          go_wp2_with (go_at_call 128; refine HII.out.mono ?_; rintro e w4 ⟨rfl, rfl⟩)
          go_ret2
          exact kd_none (HB1.out.tr HX.out) HNO.out
      · obtain rfl : k = 4 := by omega
        obtain ⟨n0, hn0⟩ : ∃ n0, num P 0 = n0 := ⟨_, rfl⟩
        obtain ⟨Lo, hLo⟩ : ∃ n0, num P 1 = n0 := ⟨_, rfl⟩
        obtain ⟨D, hDD⟩ : ∃ n0, num P 2 = n0 := ⟨_, rfl⟩
        obtain ⟨G, hG⟩ : ∃ G, IntKind.i64.wrap (Lo + D) = G := ⟨_, rfl⟩
        have hG2 : wrap64 (Lo + D) = G := (IntWalk.i64_left _).symm.trans hG
        have d0 : wr.cell? ⟨w1.heap.size, 0, none⟩ = some (.int .i64 n0) := by rw [hbn.cell 0, ← hn0]; rfl
        have d1 : wr.cell? ⟨w1.heap.size, 1, none⟩ = some (.int .i64 Lo) := by rw [hbn.cell 1, ← hLo]; rfl
        have d2 : wr.cell? ⟨w1.heap.size, 2, none⟩ = some (.int .i64 D) := by rw [hbn.cell 2, ← hDD]; rfl
        obtain ⟨a, ha⟩ : ∃ a, ats P 4 = a := ⟨_, rfl⟩
        rw [ha] at hat ⊢
        have HXX : Hid (∀ x, Vx x → P = bod x → n0 = (x.length : Int) ∧ Lo = mn x ∧ G = mx x ∧ P.drop a = dt x ∧ kd x = b) := fun x hx h => by
          obtain ⟨h1, h2, h3, h4, h5, _⟩ := bod_nums hx
          rw [← h] at h1 h2 h3 h4 h5
          refine ⟨by rw [← hn0, h1], by rw [← hLo, h2], ?_, by rw [← ha, h4], by rw [← h5, HBN.out]⟩
          rw [← hG, ← hLo, ← hDD, h2, h3]
          have := mx_in hx.2.2 hx.1
          rw [show mn x + (mx x - mn x) = mx x by omega]
          exact IntWalk.i64_in _ (by omega)
        have hbw := HB1.out.tr HX.out
        have HBW := Lib.hid hbw
        rcases (show n0 < 1 ∨ 64 < n0 ∨ (1 ≤ n0 ∧ n0 ≤ 64) by omega) with hc | hc | ⟨hc1, hc2⟩
        · have HNO : Hid (∀ x, Vx x → P = bod x → False) := fun x hx h => by
            have h1 := (HXX.out x hx h).1; have := hx.1; omega
          clear hbn hbe hn0 hLo hDD hG ha hbw
          go_wp2
          go_ret2
          exact kd_none (HBW.out.al _) HNO.out
        · have HNO : Hid (∀ x, Vx x → P = bod x → False) := fun x hx h => by
            have h1 := (HXX.out x hx h).1; have := hx.2.1; omega
          have hc3 : ¬ n0 < 1 := by omega
          clear hbn hbe hn0 hLo hDD hG ha hbw
          go_wp2
          go_ret2
          exact kd_none (HBW.out.al _) HNO.out
        · obtain ⟨n, rfl⟩ := Int.eq_ofNat_of_zero_le (show 0 ≤ n0 by omega)
          have hc3 : ¬ (n : Int) < 1 := by omega
          have hc4 : ¬ 64 < (n : Int) := by omega
          obtain ⟨m1, hm1⟩ : ∃ m1, M - a = m1 := ⟨_, rfl⟩
          obtain ⟨c1', hc1'⟩ : ∃ c1, c - a = c1 := ⟨_, rfl⟩
          have hrq : Rd wr (some (ad.add a)) m1 (P.drop a) := by
            have := rd_dropg (HR.out.bel hbw) a hat
            rwa [hm1] at this
          have HKD : Hid (∀ f, ((b = 0 ∧ f = 203) ∨ (b = 1 ∧ f = 205) ∨ (b = 2 ∧ f = 216)) → ∀ W, Bel wr W → Calls Tryz.prog f #[.agg #[], .slice (some (ad.add a)) m1 c1', .agg #[.int .i64 0, .int .i64 (n : Int), .int .i64 Lo, .int .i64 G, .int .i64 0]] W (SomeKd (fun x => x.length = n ∧ Lo = mn x ∧ G = mx x ∧ P.drop a = dt x ∧ kd x = b) W)) := fun f hf W h => kd_any (some (ad.add a)) c1' m1 n b P 0 Lo G 0 (P.drop a) (by omega) (by omega) (by omega) (by omega) (by omega) W (hrq.bel h) f hf
          have HFI : Hid (∀ x, Vx x → P = bod x → x.length = n ∧ Lo = mn x ∧ G = mx x ∧ P.drop a = dt x ∧ kd x = b) := fun x hx h => by
            obtain ⟨h1, h2, h3, h4, h5⟩ := HXX.out x hx h
            exact ⟨by omega, h2, h3, h4, h5⟩
          obtain ⟨W0, hW0⟩ : ∃ W0, wr.alloc (.cells #[.int .i64 0, .int .i64 (n : Int), .int .i64 Lo, .int .i64 G, .int .i64 0] 145) = W0 := ⟨_, rfl⟩
          have HW0 : Hid (Bel wr W0) := by rw [← hW0]; exact Bel.rf.al _
          have hh : Bk W0 wr.heap.size 145 #[.int .i64 0, .int .i64 (n : Int), .int .i64 Lo, .int .i64 G, .int .i64 0] := by rw [← hW0]; exact Bk.nw _ _ _
          have g0 : W0.cell? ⟨wr.heap.size, 0, none⟩ = some (.int .i64 0) := hh.cell 0
          have g1 : W0.cell? ⟨wr.heap.size, 1, none⟩ = some (.int .i64 (n : Int)) := hh.cell 1
          have g2 : W0.cell? ⟨wr.heap.size, 2, none⟩ = some (.int .i64 Lo) := hh.cell 2
          have g3 : W0.cell? ⟨wr.heap.size, 3, none⟩ = some (.int .i64 G) := hh.cell 3
          have g4 : W0.cell? ⟨wr.heap.size, 4, none⟩ = some (.int .i64 0) := hh.cell 4
          have g5 : W0.cell? ad = some (.int .u8 (b : Int)) := (hbw.tr HW0.out).kp HCP.out
          have hkb := (HK1.out.bel hbe).bel HW0.out
          have k0 : W0.cell? ⟨g, 0, none⟩ = some (.iface 214 (.agg #[])) := hkb.cell 0
          have k1 : W0.cell? ⟨g, 1, none⟩ = some (.iface 215 (.agg #[])) := hkb.cell 1
          have k2 : W0.cell? ⟨g, 2, none⟩ = some (.iface 216 (.agg #[])) := hkb.cell 2
          have KS : Hid (∀ W', Bel W0 W' → (W'.cell? ⟨wr.heap.size, 0, none⟩ = some (.int .i64 0) ∧ W'.cell? ⟨wr.heap.size, 1, none⟩ = some (.int .i64 (n : Int)) ∧ W'.cell? ⟨wr.heap.size, 2, none⟩ = some (.int .i64 Lo) ∧ W'.cell? ⟨wr.heap.size, 3, none⟩ = some (.int .i64 G) ∧ W'.cell? ⟨wr.heap.size, 4, none⟩ = some (.int .i64 0) ∧ W'.cell? ad = some (.int .u8 (b : Int)) ∧
            W'.cell? ⟨g, 0, none⟩ = some (.iface 214 (.agg #[])) ∧ W'.cell? ⟨g, 1, none⟩ = some (.iface 215 (.agg #[])) ∧ W'.cell? ⟨g, 2, none⟩ = some (.iface 216 (.agg #[])))) := fun W' h => ⟨h.kp g0, h.kp g1, h.kp g2, h.kp g3, h.kp g4, h.kp g5, h.kp k0, h.kp k1, h.kp k2⟩
          have HWE := Lib.hid hW0
          have mi2 : 0 < M := by omega
          have mi3 : ((0 : Int) < (M : Int)) = True := eq_true mi
          clear hW0
          have e5 : (a : Int) ≤ (M : Int) := by omega
          have e6 : (0 : Int) ≤ (a : Int) := by omega
          have e7 : (a : Int) ≤ (c : Int) := by omega
          have e8 : ¬ c = a := by omega
          have e11 : (M : Int) ≤ (c : Int) := by omega
          clear hbn hbe hn0 hLo hDD hG ha hbw hrq hh hkb
          rcases (show b = 0 ∨ b = 1 ∨ b = 2 by omega) with rfl | rfl | rfl
          · have hm0 := fun W => meth_d0 W
            have HKF := Lib.hid (HKD.out 203 (.inl ⟨rfl, rfl⟩))
            go_wp2_with fail
            rw [HWE.out]
            clear g0 g1 g2 g3 g4 g5 k0 k1 k2
            go_region_held3 (fun W' => W'.cell? ⟨wr.heap.size, 0, none⟩ = some (.int .i64 0) ∧ W'.cell? ⟨wr.heap.size, 1, none⟩ = some (.int .i64 (n : Int)) ∧ W'.cell? ⟨wr.heap.size, 2, none⟩ = some (.int .i64 Lo) ∧ W'.cell? ⟨wr.heap.size, 3, none⟩ = some (.int .i64 G) ∧ W'.cell? ⟨wr.heap.size, 4, none⟩ = some (.int .i64 0) ∧ W'.cell? ad = some (.int .u8 ((0 : Nat) : Int)) ∧
              W'.cell? ⟨g, 0, none⟩ = some (.iface 214 (.agg #[])) ∧ W'.cell? ⟨g, 1, none⟩ = some (.iface 215 (.agg #[])) ∧ W'.cell? ⟨g, 2, none⟩ = some (.iface 216 (.agg #[])))
              (first
                | (refine KS.out _ ?_; (repeat (first | exact Bel.rf | exact HB5.out | (with_reducible refine Bel.drwN ?_ _) | (with_reducible refine Bel.drw ?_) | (with_reducible refine Bel.al ?_ _))); done))
              (first
                | (go_at_call 203; refine (HKF.out _ (by first | exact HW0.out | exact HW0.out.drw | exact HW0.out.drwN _)).mono ?_; rintro e w5 ⟨A5, m5, c5, L5, b5, rfl, hz5, h51, h52, h53, h54, h55, hb5, hq5⟩; have HB5 : Hid (Bel W0 w5) := (by first | exact hb5 | exact Bel.rf.drw.tr hb5 | exact (Bel.rf.drwN _).tr hb5); have HQ := Lib.hid (And.intro hz5 (And.intro h54 (And.intro h55 hq5))); have hsz5 : W0.heap.size ≤ w5.heap.size := HB5.out.size; clear hb5 hz5 h54 h55 hq5))
            all_goals
              go_wp2
              go_ret2
              obtain ⟨q1, q2, q3, q4⟩ := HQ.out
              refine ⟨A5, m5, c5, L5, b5, rfl, q1, h51, h52, h53, q2, fun ad e => ?_, HBW.out.tr (HW0.out.tr HB5.out), fun x hx h => q4 x hx (HFI.out x hx h)⟩
              obtain ⟨h9, e9, hh9⟩ := q3 ad e
              exact ⟨h9, e9, Nat.le_trans (HBW.out.tr HW0.out).size hh9⟩
          · have hm0 := fun W => meth_d1 W
            have HKF := Lib.hid (HKD.out 205 (.inr (.inl ⟨rfl, rfl⟩)))
            go_wp2_with fail
            rw [HWE.out]
            clear g0 g1 g2 g3 g4 g5 k0 k1 k2
            go_region_held3 (fun W' => W'.cell? ⟨wr.heap.size, 0, none⟩ = some (.int .i64 0) ∧ W'.cell? ⟨wr.heap.size, 1, none⟩ = some (.int .i64 (n : Int)) ∧ W'.cell? ⟨wr.heap.size, 2, none⟩ = some (.int .i64 Lo) ∧ W'.cell? ⟨wr.heap.size, 3, none⟩ = some (.int .i64 G) ∧ W'.cell? ⟨wr.heap.size, 4, none⟩ = some (.int .i64 0) ∧ W'.cell? ad = some (.int .u8 ((1 : Nat) : Int)) ∧
              W'.cell? ⟨g, 0, none⟩ = some (.iface 214 (.agg #[])) ∧ W'.cell? ⟨g, 1, none⟩ = some (.iface 215 (.agg #[])) ∧ W'.cell? ⟨g, 2, none⟩ = some (.iface 216 (.agg #[])))
              (first
                | (refine KS.out _ ?_; (repeat (first | exact Bel.rf | exact HB5.out | (with_reducible refine Bel.drwN ?_ _) | (with_reducible refine Bel.drw ?_) | (with_reducible refine Bel.al ?_ _))); done))
              (first
                | (go_at_call 205; refine (HKF.out _ (by first | exact HW0.out | exact HW0.out.drw | exact HW0.out.drwN _)).mono ?_; rintro e w5 ⟨A5, m5, c5, L5, b5, rfl, hz5, h51, h52, h53, h54, h55, hb5, hq5⟩; have HB5 : Hid (Bel W0 w5) := (by first | exact hb5 | exact Bel.rf.drw.tr hb5 | exact (Bel.rf.drwN _).tr hb5); have HQ := Lib.hid (And.intro hz5 (And.intro h54 (And.intro h55 hq5))); have hsz5 : W0.heap.size ≤ w5.heap.size := HB5.out.size; clear hb5 hz5 h54 h55 hq5))
            all_goals
              go_wp2
              go_ret2
              obtain ⟨q1, q2, q3, q4⟩ := HQ.out
              refine ⟨A5, m5, c5, L5, b5, rfl, q1, h51, h52, h53, q2, fun ad e => ?_, HBW.out.tr (HW0.out.tr HB5.out), fun x hx h => q4 x hx (HFI.out x hx h)⟩
              obtain ⟨h9, e9, hh9⟩ := q3 ad e
              exact ⟨h9, e9, Nat.le_trans (HBW.out.tr HW0.out).size hh9⟩
          · have hm0 := fun W => meth_d2 W
            have HKF := Lib.hid (HKD.out 216 (.inr (.inr ⟨rfl, rfl⟩)))
            go_wp2_with fail
            rw [HWE.out]
            clear g0 g1 g2 g3 g4 g5 k0 k1 k2
            go_region_held3 (fun W' => W'.cell? ⟨wr.heap.size, 0, none⟩ = some (.int .i64 0) ∧ W'.cell? ⟨wr.heap.size, 1, none⟩ = some (.int .i64 (n : Int)) ∧ W'.cell? ⟨wr.heap.size, 2, none⟩ = some (.int .i64 Lo) ∧ W'.cell? ⟨wr.heap.size, 3, none⟩ = some (.int .i64 G) ∧ W'.cell? ⟨wr.heap.size, 4, none⟩ = some (.int .i64 0) ∧ W'.cell? ad = some (.int .u8 ((2 : Nat) : Int)) ∧
              W'.cell? ⟨g, 0, none⟩ = some (.iface 214 (.agg #[])) ∧ W'.cell? ⟨g, 1, none⟩ = some (.iface 215 (.agg #[])) ∧ W'.cell? ⟨g, 2, none⟩ = some (.iface 216 (.agg #[])))
              (first
                | (refine KS.out _ ?_; (repeat (first | exact Bel.rf | exact HB5.out | (with_reducible refine Bel.drwN ?_ _) | (with_reducible refine Bel.drw ?_) | (with_reducible refine Bel.al ?_ _))); done))
              (first
                | (go_at_call 216; refine (HKF.out _ (by first | exact HW0.out | exact HW0.out.drw | exact HW0.out.drwN _)).mono ?_; rintro e w5 ⟨A5, m5, c5, L5, b5, rfl, hz5, h51, h52, h53, h54, h55, hb5, hq5⟩; have HB5 : Hid (Bel W0 w5) := (by first | exact hb5 | exact Bel.rf.drw.tr hb5 | exact (Bel.rf.drwN _).tr hb5); have HQ := Lib.hid (And.intro hz5 (And.intro h54 (And.intro h55 hq5))); have hsz5 : W0.heap.size ≤ w5.heap.size := HB5.out.size; clear hb5 hz5 h54 h55 hq5))
            all_goals
              go_wp2
              go_ret2
              obtain ⟨q1, q2, q3, q4⟩ := HQ.out
              refine ⟨A5, m5, c5, L5, b5, rfl, q1, h51, h52, h53, q2, fun ad e => ?_, HBW.out.tr (HW0.out.tr HB5.out), fun x hx h => q4 x hx (HFI.out x hx h)⟩
              obtain ⟨h9, e9, hh9⟩ := q3 ad e
              exact ⟨h9, e9, Nat.le_trans (HBW.out.tr HW0.out).size hh9⟩
end Go.Proofs.YtpbnabibnkohdaaGreatDoor.Sg
namespace Go.Proofs.YtpbnabibnkohdaaGreatDoor.Sg
open Go.ChangeShapes Go.WideShapes Go.RowKit Wo Bm By Cd Pk Cr
open Wi (Zi zi_bk)
open Sr (zs zs_at zs_len)
set_option linter.unusedVariables false
def SomeDc (P : List Nat) (w : World) (e : Ending) (w' : World) : Prop := ∃ (A : Option Addr) (n c : Nat) (L : List Int) (er : Int), e = .returned (.tuple #[.slice A n c, .int .i64 er]) ∧ Zi w' A n L ∧ n ≤ 64 ∧ n ≤ c ∧ c ≤ maxLen ∧ (A = none → c = 0) ∧ (∀ ad, A = some ad → ∃ h, ad = ⟨h, 0, none⟩ ∧ w.heap.size ≤ h) ∧ Bel w w' ∧
  (er ≠ 0 → A = none ∧ n = 0 ∧ c = 0) ∧ (er = 0 → Vx L ∧ seg L = P) ∧ (∀ x, Vx x → P = seg x → er = 0 ∧ L = x)
theorem dc_no {P : List Nat} {w w' : World} (er : Int) (her : er ≠ 0) (hb : Bel w w') (h : ∀ x, Vx x → P = seg x → False) : SomeDc P w (.returned (.tuple #[.slice none 0 0, .int .i64 er])) w' :=
  ⟨none, 0, 0, [], er, rfl, ⟨rfl, fun h => by omega⟩, by omega, by omega, by unfold maxLen; omega, fun _ => rfl, fun ad e => (by cases e), hb, fun _ => ⟨rfl, rfl, rfl⟩, fun h => absurd h her, fun x hx hp => (h x hx hp).elim⟩
set_option maxHeartbeats 4000000 in
set_option maxRecDepth 100000 in
theorem dec_any (A : Option Addr) (c M : Nat) (P : List Nat) (hM : M ≤ 1000000) (hc : M ≤ c) (hcm : c ≤ maxLen) (w : World) (hr : Rd w A M P) :
    Calls Tryz.prog 67 #[.slice A M c] w (SomeDc P w) := by
  have HR := Lib.hid hr
  rcases Nat.lt_or_ge M 9 with h9 | h9
  · have e1 : (M : Int) < 9 := by omega
    have HNO : Hid (∀ x, Vx x → P = seg x → False) := fun x hx h => by
      have h1 := (seg_len hx).1
      rw [← h, hr.1] at h1
      omega
    clear hr
    go_enter Tryz.func67, Tryz.ntmps67
    go_wp2
    go_ret2
    exact dc_no 2 (by decide) Bel.rf HNO.out
  · obtain ⟨ad, rfl, _⟩ := hr.2.2 (by omega)
    obtain ⟨E, hE⟩ : ∃ E, E + 4 = M := ⟨M - 4, by omega⟩
    have HH := Lib.hid (fun W (hb : Bel w W) => holds_okg ad c M E P hE hM hc hcm W (hr.bel hb))
    have HSX : Hid (∀ x, Vx x → P = seg x → P.take E = bod x ∧ P.drop E = seal4 (crc (bod x))) := fun x hx h => by
      have h1 := (seg_len hx).2.2
      have h2 := hr.1
      rw [h] at h2
      have e : E = (bod x).length := by omega
      subst h e
      exact seg_parts
    have e1 : ¬ (M : Int) < 9 := by omega
    rcases Classical.em (seal4 (crc (P.take E)) = P.drop E) with hs | hs
    · rw [decide_eq_true hs] at HH
      have hrt := rd_take hr E (by omega)
      have HSM := Lib.hid (fun W (hb : Bel w W) => smp_ok ad c E (P.take E) (by omega) (by omega) (by omega) (by unfold maxLen at hcm; omega) W (hrt.bel hb))
      have e2 : (M : Int) - 4 = (E : Int) := by omega
      have e3 : (0 : Int) ≤ (E : Int) := by omega
      have e4 : (E : Int) ≤ (c : Int) := by omega
      have e5 : (E : Int) ≤ (M : Int) := by omega
      have e6 : (M : Int) ≤ (c : Int) := by omega
      clear hr hs hrt
      go_enter Tryz.func67, Tryz.ntmps67
      go_wp2_with fail
      go_at_call 100
      refine (HH.out _ (by repeat (first | exact Bel.rf | (with_reducible refine Bel.drwN ?_ _) | (with_reducible refine Bel.drw ?_)))).mono ?_
      rintro e w1 ⟨rfl, hb1⟩
      have HB1 : Hid (Bel w w1) := by first | exact hb1 | exact Bel.rf.drw.tr hb1 | exact (Bel.rf.drwN _).tr hb1
      clear hb1
      go_wp2_with fail
      go_at_call 101
      refine (HSM.out _ (by first | exact HB1.out | exact HB1.out.drw | exact HB1.out.drwN _)).mono ?_
      rintro e w2 ⟨A2, n, c2, L, b, rfl, hz, hn, hnc, hcm2, hA2, hf2, hb2, hq⟩
      have HB2 : Hid (Bel w w2) := by first | exact HB1.out.tr hb2 | exact HB1.out.drw.tr hb2 | exact (HB1.out.drwN _).tr hb2
      have HZ := Lib.hid hz
      have HF : Hid (∀ ad, A2 = some ad → ∃ h, ad = ⟨h, 0, none⟩ ∧ w.heap.size ≤ h) := fun ad e => by
        obtain ⟨h, e1, h1⟩ := hf2 ad e
        exact ⟨h, e1, Nat.le_trans HB1.out.size h1⟩
      have HQ := Lib.hid hq
      clear hz hf2 hb2 hq
      rcases b with _ | _
      · have HNO : Hid (∀ x, Vx x → P = seg x → False) := fun x hx h => by
          have h1 := (HQ.out x hx (HSX.out x hx h).1).1
          cases h1
        go_wp2
        go_ret2
        exact dc_no 3 (by decide) HB2.out HNO.out
      · rcases Classical.em (Vx L) with hv | hv
        · have hlen := HZ.out.1
          obtain ⟨ad2, rfl, _⟩ := HZ.out.2 (by have := hv.1; omega)
          obtain ⟨g, rfl, hg⟩ := HF.out ad2 rfl
          have HE := Lib.hid (fun W (hb : Bel w2 W) => enc_ok g 0 c2 n L hv hlen W (HZ.out.bel hb))
          have HV := Lib.hid hv
          clear hv
          go_wp2_with fail
          go_at_call 65
          refine (HE.out _ (by first | exact Bel.rf | exact Bel.rf.drw | exact Bel.rf.drwN _)).mono ?_
          rintro e w3 ⟨u, rfl, ho3, hb3⟩
          have HB3 : Hid (Bel w2 w3) := by first | exact hb3 | exact Bel.rf.drw.tr hb3 | exact (Bel.rf.drwN _).tr hb3
          obtain ⟨g3, c3, rfl, _, _, _, hr3⟩ := own_rd ho3 (seg_byte HV.out) rfl (by have := (seg_len HV.out).1; omega)
          have HEQ := Lib.hid (fun W (hb : Bel w3 W) => equal_ok (some ⟨g3, 0, none⟩) (some ad) c3 c (seg L).length M (seg L) P W (hr3.bel hb) (HR.out.bel ((HB2.out.tr HB3.out).tr hb)))
          clear ho3 hb3 hr3
          rcases Classical.em (seg L = P) with hp | hp
          · rw [decide_eq_true hp] at HEQ
            have HP := Lib.hid hp
            clear hp
            go_wp2_with (go_at_call 102; refine (HEQ.out _ (by first | exact Bel.rf | exact Bel.rf.drw | exact Bel.rf.drwN _)).mono ?_; rintro e w4 ⟨rfl, rfl⟩)
            go_ret2
            refine ⟨_, n, c2, L, 0, rfl, HZ.out.bel (by first | exact HB3.out | exact HB3.out.drw | exact HB3.out.drwN _), hn, hnc, hcm2, hA2, HF.out, by first | exact HB2.out.tr HB3.out | exact (HB2.out.tr HB3.out).drw | exact (HB2.out.tr HB3.out).drwN _, fun h => absurd rfl h, fun _ => ⟨HV.out, HP.out⟩, fun x hx h => ⟨rfl, (HQ.out x hx (HSX.out x hx h).1).2⟩⟩
          · rw [decide_eq_false hp] at HEQ
            have HNO : Hid (∀ x, Vx x → P = seg x → False) := fun x hx h => by
              have h1 := (HQ.out x hx (HSX.out x hx h).1).2
              subst h1
              exact hp h.symm
            clear hp
            go_wp2_with (go_at_call 102; refine (HEQ.out _ (by first | exact Bel.rf | exact Bel.rf.drw | exact Bel.rf.drwN _)).mono ?_; rintro e w4 ⟨rfl, rfl⟩)
            go_ret2
            exact dc_no 3 (by decide) (by first | exact HB2.out.tr HB3.out | exact (HB2.out.tr HB3.out).drw | exact (HB2.out.tr HB3.out).drwN _) HNO.out
        · have HE := Lib.hid (fun W (hb : Bel w2 W) => enc_bad A2 c2 n L (by omega) hv W (HZ.out.bel hb))
          have HNO : Hid (∀ x, Vx x → P = seg x → False) := fun x hx h => by
            have h1 := (HQ.out x hx (HSX.out x hx h).1).2
            subst h1
            exact hv hx
          clear hv
          go_wp2_with fail
          go_at_call 65
          refine (HE.out _ (by first | exact Bel.rf | exact Bel.rf.drw | exact Bel.rf.drwN _)).mono ?_
          rintro e w3 ⟨er, rfl, her, hb3⟩
          have HB3 : Hid (Bel w2 w3) := by first | exact hb3 | exact Bel.rf.drw.tr hb3 | exact (Bel.rf.drwN _).tr hb3
          have hq : (er != 0) = true := by simpa using her
          clear her hb3
          go_wp2
          go_ret2
          exact dc_no 3 (by decide) (HB2.out.tr HB3.out) HNO.out
    · rw [decide_eq_false hs] at HH
      have HNO : Hid (∀ x, Vx x → P = seg x → False) := fun x hx h => by
        obtain ⟨h1, h2⟩ := HSX.out x hx h
        exact hs (by rw [h1, h2])
      clear hr hs
      go_enter Tryz.func67, Tryz.ntmps67
      go_wp2_with fail
      go_at_call 100
      refine (HH.out _ (by repeat (first | exact Bel.rf | (with_reducible refine Bel.drwN ?_ _) | (with_reducible refine Bel.drw ?_)))).mono ?_
      rintro e w1 ⟨rfl, hb1⟩
      have HB1 : Hid (Bel w w1) := by first | exact hb1 | exact Bel.rf.drw.tr hb1 | exact (Bel.rf.drwN _).tr hb1
      clear hb1
      go_wp2
      go_ret2
      exact dc_no 5 (by decide) HB1.out HNO.out
end Go.Proofs.YtpbnabibnkohdaaGreatDoor.Sg
namespace Go.Proofs.YtpbnabibnkohdaaGreatDoor.Sg
open Go.ChangeShapes Go.WideShapes Go.RowKit Wo Bm By Cd Pk Cr
open Wi (Zi zi_bk)
open Sr (zs zs_at zs_len Ok Ch)
set_option linter.unusedVariables false
theorem Bk.eqc {w : World} {g : Nat} {t : TypeId} {cs ds : Array Value} (h : Bk w g t cs) (e : cs = ds) : Bk w g t ds := e ▸ h
end Go.Proofs.YtpbnabibnkohdaaGreatDoor.Sg
namespace Go.Proofs.YtpbnabibnkohdaaGreatDoor.Sg
open Go.ChangeShapes Go.WideShapes Go.RowKit Wo Bm By Cd Pk Cr
open Wi (Zi zi_bk row_form own_zi)
open Sr (zs zs_at zs_len Ok Ch pick_any range_any list_any lst_new)
set_option linter.unusedVariables false
def SomeMade (g : Nat) (w : World) (e : Ending) (w' : World) : Prop := ∃ (h c n : Nat) (x : List Int), e = .returned (.slice (some ⟨h, 0, none⟩) n c) ∧ Zi w' (some ⟨h, 0, none⟩) n x ∧ x.length = n ∧ n ≤ c ∧ Vx x ∧ w.heap.size ≤ h ∧ Ok w' g ∧ Ch g w w'
theorem bod_777 : bod [7, 7, 7] = [0, 6, 14, 0, 42] := by
  have e : mn [7, 7, 7] = 7 := by decide
  have e2 : mx [7, 7, 7] = 7 := by decide
  unfold bod kd dt
  rw [e, e2]
  decide
theorem vx_777 : Vx [7, 7, 7] := ⟨by decide, by decide, fun n hn => by simp at hn; omega⟩
theorem len_777 : (seg [7, 7, 7]).length = 9 := by rw [(seg_len vx_777).2.2, bod_777]; rfl
theorem tak_777 : (seg [7, 7, 7]).take 5 = [0, 6, 14, 0, 42] := by
  have := (seg_parts (x := [7, 7, 7])).1
  rw [bod_777] at this
  exact this
theorem hd_777 : hdv (kd [7, 7, 7]) ([7, 7, 7] : List Int).length (mn [7, 7, 7]) (mx [7, 7, 7]) ([7, 7, 7] : List Int).sum = hdv 0 3 7 7 21 := by
  have e : mn [7, 7, 7] = 7 := by decide
  have e2 : mx [7, 7, 7] = 7 := by decide
  have e3 : kd [7, 7, 7] = 0 := by unfold kd; rw [e, e2]; rfl
  rw [e, e2, e3]
  rfl
theorem sb_777 : sb [0, 6, 14, 0, 42] = { data := #[0, 6, 14, 0, 42] } := by rfl
end Go.Proofs.YtpbnabibnkohdaaGreatDoor.Sg
