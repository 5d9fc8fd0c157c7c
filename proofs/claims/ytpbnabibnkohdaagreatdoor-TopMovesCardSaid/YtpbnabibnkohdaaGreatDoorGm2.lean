/- Merged: MsC SrcLen Near MsK WarpMath EditMath Edit1 MsD RrMath EdB Warp1 Warp2 Warp3 Warp4. -/
import Derived.Test.YtpbnabibnkohdaaGreatDoorGm1
import Derived.Lib.ItoaNum
import Derived.Lib.AtoiOr
import Derived.Lib.IndexMore
import Derived.Lib.Bytealg
import Derived.Deep.RegionLaw
import Derived.Maps.AppendAt
import Derived.Laws.CopyOwn
import Derived.Laws.Bits64b
import Derived.Shelf.Abstract
namespace Go.Proofs.YtpbnabibnkohdaaGreatDoor.Ms
open Go.ChangeShapes Go.WideShapes Go.RowKit Wo Sr Wi Ra
set_option linter.unusedVariables false
/-- a valid measure -/
def Mv (k b g : Int) : Prop := ((k = 1 ∨ k = 2 ∨ k = 3) ∧ b = 0 ∧ g = 0) ∨ (k = 4 ∧ 0 ≤ b ∧ b ≤ 32 ∧ g = 0) ∨ (k = 5 ∧ b = 0 ∧ -1000 ≤ g ∧ g ≤ 1000)
set_option maxHeartbeats 2000000 in
set_option maxRecDepth 100000 in
theorem check_ok (k b g : Int) (h : Mv k b g) (w : World) : Calls Tryz.prog 41 #[.agg #[.int .i64 k, .int .i64 b, .int .i64 g]] w fun e w' => e = .returned (.int .i64 0) ∧ Bel w w' := by
  rcases h with ⟨rfl | rfl | rfl, rfl, rfl⟩ | ⟨rfl, h0, h1, rfl⟩ | ⟨rfl, rfl, h0, h1⟩
  · go_enter Tryz.func41, Tryz.ntmps41
    go_wp2
    go_ret
    exact ⟨rfl, Bel.rf.al _⟩
  · go_enter Tryz.func41, Tryz.ntmps41
    go_wp2
    go_ret
    exact ⟨rfl, Bel.rf.al _⟩
  · go_enter Tryz.func41, Tryz.ntmps41
    go_wp2
    go_ret
    exact ⟨rfl, Bel.rf.al _⟩
  · go_enter Tryz.func41, Tryz.ntmps41
    go_wp2
    go_ret
    exact ⟨rfl, Bel.rf.al _⟩
  · have SO : Hid (∀ W, _) := fun W => sample_ok g h0 h1 W
    go_enter Tryz.func41, Tryz.ntmps41
    go_wp2_with (go_at_call 69; refine (SO.out _).mono ?_; rintro e w1 ⟨rfl, rfl⟩)
    go_ret
    exact ⟨rfl, Bel.rf.al _⟩
set_option maxHeartbeats 2000000 in
set_option maxRecDepth 100000 in
theorem integer_ok (d : Int) (h0 : 0 ≤ d) (h1 : d ≤ 2305843009213693952) (w : World) : Calls Tryz.prog 71 #[.int .i64 d, .int .i64 0] w fun e w' => e = .returned (.tuple #[.agg #[.int .i64 d, .int .i64 1], .int .i64 0]) ∧ Bel w w' := by
  have e1 : gd d 1 = 1 := gd_one d
  have MK : Hid (∀ W, Calls Tryz.prog 103 #[.int .i64 d, .int .i64 1] W fun e w' => e = .returned (.tuple #[.agg #[.int .i64 d, .int .i64 1], .int .i64 0]) ∧ Bel W w') := fun W => by
    have h := make_in d 1 W h0 (by decide) (by rw [e1, Int.ediv_one]; exact rin_yes ⟨h0, h1, by decide, by decide⟩) (by omega) (by decide)
    rw [e1, Int.ediv_one, Int.ediv_one] at h
    exact h
  go_enter Tryz.func71, Tryz.ntmps71
  go_wp2_with fail
  go_at_call 103
  refine (MK.out _).mono ?_
  rintro e w1 ⟨rfl, hb⟩
  have K4 : Bk w1 w.heap.size 42 #[.int .i64 0, .int .i64 0] := (Bk.nw _ _ _).bel hb
  have l0 : w1.cell? ⟨w.heap.size, 0, none⟩ = some (.int .i64 0) := K4.cell 0
  have l1 : w1.cell? ⟨w.heap.size, 1, none⟩ = some (.int .i64 0) := K4.cell 1
  have j0 := K4.fr 0
  have j1 := K4.fr 1
  have HF : Hid (Bel w w1) := (Bel.rf.al _).tr hb
  clear hb K4
  go_wp2
  refine bodyPost_ret (v := .tuple #[.agg #[.int .i64 d, .int .i64 1], .int .i64 0]) (by simp [results, Tryz.results71, go_sem, l0, l1]) rfl ⟨rfl, ?_⟩
  exact (HF.out.st (Nat.le_refl _) _).st (Nat.le_refl _) _
end Go.Proofs.YtpbnabibnkohdaaGreatDoor.Ms
namespace Go.Proofs.YtpbnabibnkohdaaGreatDoor.Sr
open Go.ChangeShapes Go.WideShapes Go.RowKit Wo
set_option linter.unusedVariables false
theorem length_any (g : Nat) (w : World) (h : Ok w g) : Calls Tryz.prog 19 #[.pointer (some ⟨g, 0, none⟩)] w (SomeRange g 2 32 w) := by
  have HO := Lib.hid h
  clear h
  go_enter Tryz.func19, Tryz.ntmps19
  go_wp2_with fail
  go_at_call 20
  refine (n_any g 8 (by decide) (by decide) _ HO.out).mono ?_
  rintro e w1 ⟨x, rfl, x0, x1, ho, hc⟩
  have HO1 := Lib.hid ho
  have HC1 := Lib.hid hc
  clear ho hc
  rcases (show x = 7 ∨ x ≠ 7 by omega) with rfl | hx
  · go_wp2_with (go_at_call 21; refine (range_any g 13 32 (by decide) (by decide) (by decide) _ HO1.out).mono ?_; rintro e w2 ⟨y, rfl, y0, y1, ho, hc⟩)
    go_ret
    exact ⟨y, rfl, by omega, by omega, ho, HC1.out.tr hc⟩
  · go_wp2_with (go_at_call 21; refine (range_any g 2 12 (by decide) (by decide) (by decide) _ HO1.out).mono ?_; rintro e w2 ⟨y, rfl, y0, y1, ho, hc⟩)
    go_ret
    exact ⟨y, rfl, by omega, by omega, ho, HC1.out.tr hc⟩
end Go.Proofs.YtpbnabibnkohdaaGreatDoor.Sr
namespace Go.Proofs.YtpbnabibnkohdaaGreatDoor.Sr
open Go.ChangeShapes Go.WideShapes Go.RowKit Wo Wi
set_option linter.unusedVariables false
/-- the first k numbers have been turned to others -/
def NI (n g h c : Nat) (w : World) (s21 : Value) (wr : World) : Prop := ∃ (k : Nat) (M : List Int) (V : World), V = wr ∧ k ≤ n ∧ s21 = .int .i64 (k : Int) ∧
  wr.ownsRow w.heap.size 3 1 (.slice (some ⟨h, 0, none⟩) n c) n (zs M) ∧ M.length = n ∧ Sam M ∧ Ok wr g ∧ Ch g w wr
theorem NI.drwN {n g h c : Nat} {w wr : World} {s : Value} (hh : NI n g h c w s wr) (q : Nat) : NI n g h c w s (wr.drewN q) := by
  obtain ⟨k, M, V, rfl, h1, h2, h3, h4, h5, h6, h7⟩ := hh
  exact ⟨k, M, _, rfl, h1, h2, own_bel h3 (Bel.rf.drwN q), h4, h5, h6.drwN q, h7.drwN q⟩
theorem sam_set {M : List Int} (h : Sam M) {y : Int} (h0 : -1000 ≤ y) (h1 : y ≤ 1000) (k : Nat) : Sam (M.set k y) := by
  intro x hx
  rcases List.mem_or_eq_of_mem_set hx with h' | rfl
  · exact h x h'
  · exact ⟨h0, h1⟩
theorem ni_step {n g h c k : Nat} {w wr w1 : World} {M : List Int} {y : Int} (hgB : g < w.heap.size) (hk : k < n) (hM : M.length = n) (hs : Sam M) (y0 : -1000 ≤ y) (y1 : y ≤ 1000)
    (hown : wr.ownsRow w.heap.size 3 1 (.slice (some ⟨h, 0, none⟩) n c) n (zs M)) (hB : w.heap.size ≤ h) (hcw : Ch g w wr) (ho1 : Ok w1 g) (hc1 : Ch g wr w1) :
    NI n g h c w (.int .i64 ((k : Int) + 1)) (w1.setCell ⟨h, k, none⟩ (.int .i64 y)) :=
  ⟨k + 1, M.set k y, _, rfl, by omega, by congr 1, own_set (own_ch hown hc1 hgB) y, by rw [List.length_set]; exact hM, sam_set hs y0 y1 k, ho1.st (by show g < h; omega) _, (hcw.tr hc1).st2 (by show _ ≤ h; exact hB) _⟩
set_option maxHeartbeats 16000000 in
set_option maxRecDepth 100000 in
theorem near_any (g : Nat) (A : Option Addr) (cx n : Nat) (L : List Int) (n1 : 1 ≤ n) (n2 : n ≤ 1000) (hs : Sam L) (w : World) (h : Ok w g) (hx : Zi w A n L) (hne : ∀ ad, A = some ad → ad.block ≠ g) :
    Calls Tryz.prog 8 #[.pointer (some ⟨g, 0, none⟩), .slice A n cx] w (SomeList g n w) := by
  obtain ⟨i0, hi0, hz0, hz1, hz2⟩ := info_parts info_int
  have HI := Lib.hid (And.intro hi0 (And.intro hz0 (And.intro hz1 hz2)))
  clear hi0 hz0 hz1 hz2
  obtain ⟨ad, rfl, hab, hac⟩ := id (hx.2 (by omega))
  have HX := Lib.hid hx
  have HNE := Lib.hid hne
  have HSL := Lib.hid hs
  have HGB := Lib.hid h.lt
  have HO0 := Lib.hid h
  have hl := hx.1
  have ni1 : 1 ≤ (n : Int) := by omega
  have ni2 : (n : Int) ≤ 1000 := by omega
  clear h hx hne hs hab hac
  go_enter Tryz.func8, Tryz.ntmps8
  go_wp2_with fail
  go_at_call 20
  refine (n_any g 7 (by decide) (by decide) _ HO0.out).mono ?_
  rintro e w1 ⟨kd, rfl, kd0, kd1, ho, hc⟩
  have HO1 := Lib.hid ho
  have HC1 := Lib.hid hc
  clear ho hc
  go_wp2_with fail
  go_at_call 21
  refine (range_any g (-20) 20 (by decide) (by decide) (by decide) _ HO1.out).mono ?_
  rintro e w2 ⟨b, rfl, b0, b1, ho, hc⟩
  have HO2 := Lib.hid ho
  have HC2 : Hid (Ch g w w2) := HC1.out.tr hc
  clear ho hc
  go_wp2_with fail
  go_at_call 21
  refine (range_any g 1 3 (by decide) (by decide) (by decide) _ HO2.out).mono ?_
  rintro e w3 ⟨kk, rfl, kk0, kk1, ho, hc⟩
  have HO3 := Lib.hid ho
  have HC3 : Hid (Ch g w w3) := HC2.out.tr hc
  have hgB := HGB.out
  have hsz := HC3.out.sz
  have HOW := Lib.hid (World.ownsRow_made (base := w.heap.size) (e := 3) (size := 1) w3 #[] 0 (by omega) (by unfold maxLen; omega) rfl)
  have HX3 := Lib.hid ((HX.out.ch HC3.out HNE.out).bel (Bel.rf.al (.cells #[] 3)))
  have HXC : Hid (∀ j u, (zs L)[j]? = some u → (w3.alloc (.cells #[] 3)).cell? (ad.add j) = some u) := by
    show ∀ j u, _
    intro j u hu
    have hj : j < L.length := by
      rcases Nat.lt_or_ge j L.length with h | h
      · exact h
      · rw [List.getElem?_eq_none (by rw [zs_len]; exact h)] at hu; cases hu
    obtain ⟨ad', e, _, hcc⟩ := HX3.out.2 (by omega)
    cases e
    rw [zs_at hj] at hu
    cases hu
    exact hcc j (by omega)
  have HZL : Hid ((zs L).length = n * 1) := by show _ = _; rw [zs_len]; omega
  have HZO : Hid (∀ u ∈ zs L, u.oneCell' = true) := by
    show ∀ u ∈ zs L, _
    intro u hu
    obtain ⟨x, _, rfl⟩ := List.mem_map.1 hu
    rfl
  clear ho hc
  go_wp2_with (at_builtin; refine wpList_append_lies _ (by rfl) _ _ 22 (by rfl) w.heap.size 3 i0 _ 1 8 Tryz.underlying22 HI.out.1 HI.out.2.1 HI.out.2.2.1 HI.out.2.2.2 (by rfl) (by omega) (.slice (some ⟨w3.heap.size, 0, none⟩) 0 0) 0 [] (by rfl) HOW.out ad n cx (zs L) (by rfl) HZL.out HXC.out HZO.out (by omega) (by unfold maxLen; omega) (by omega) (by simp; omega) (w3.heap.size + 1) (by simp) ?_; intro h c w5 hown4 hgrow hat hlt4; rw [Nat.zero_add] at hown4; rw [List.nil_append] at hown4)
  obtain ⟨hB, -⟩ := hown4.lt h rfl
  have HC5 : Hid (Ch g w w5) := ch_grown (HC3.out.al _) hgrow (fun q e => by have e2 : w3.heap.size = q := Option.some.inj e; omega)
  have HR0 : Hid (NI n g h c w (.int .i64 0) w5) := ⟨0, L, _, rfl, by omega, rfl, hown4, hl, HSL.out, ok_grown (HO3.out.bel (Bel.rf.al _)) hgrow (fun q e => by have e2 : w3.heap.size = q := Option.some.inj e; omega), HC5.out⟩
  have HZ5 : Hid (Zi w (some ad) n L) := HX.out
  clear hown4 hgrow hat hlt4 HOW HX3 HXC HZL HZO
  try simp only [Nat.zero_add]
  go_wp2
  go_loopw [21] (fun s21 wr => NI n g h c w s21 wr) (fun s21 _ => n - (intOf s21).toNat)
  case atStart => exact HR0.out
  case round =>
    clear HR0
    obtain ⟨k, M, wr, hwr, hk, rfl, hown, hM, hS, hog, hcw⟩ := hrel
    subst hwr
    have HO := Lib.hid hown
    have HM := Lib.hid hM
    have HS := Lib.hid hS
    have HG := Lib.hid hog
    have HCW := Lib.hid hcw
    rcases Nat.lt_or_ge k n with hlt | hge
    · have c1 := (own_zi hown hM).at k hlt
      have f1 := own_fr hown k
      have pu := HS.out.at k
      obtain ⟨u, hu⟩ : ∃ u, M.getD k 0 = u := ⟨_, rfl⟩
      rw [hu] at c1 pu
      obtain ⟨u0, u1⟩ := pu
      obtain ⟨ad', e', _, hac⟩ := (HX.out.ch hcw HNE.out).2 (by omega)
      cases e'
      have px := fun j => HSL.out.at j
      have PX := Lib.hid px
      have HAC := Lib.hid hac
      have ki : (k : Int) < (n : Int) := by omega
      clear hown hM hS hog hcw hu px hac
      rcases (show kd = 0 ∨ kd = 1 ∨ kd = 2 ∨ kd = 3 ∨ kd = 4 ∨ kd = 5 ∨ kd = 6 by omega) with rfl | rfl | rfl | rfl | rfl | rfl | rfl
      · go_wp2
        go_roundw
        case rel => exact ⟨k + 1, M, _, rfl, by omega, by go_num, HO.out, HM.out, HS.out, HG.out, HCW.out⟩
        case measure => simp [intOf]; omega
      · go_wp2
        go_region_with (first
          | (go_at_call 21; refine (range_any g (-2) 2 (by decide) (by decide) (by decide) _ (by repeat (first | exact HG.out | refine Ok.drwN ?_ _))).mono ?_; rintro e w6 ⟨y, rfl, y0, y1, ho, hc⟩; have hc6 : Ch g wr w6 := (by repeat (first | exact hc | refine Ch.tr ?_ hc | exact Ch.rf.drwN _ | exact Ch.rf.drw)); have c2 : w6.cell? ⟨h, k, none⟩ = some (.int .i64 u) := hc6.kp c1 (by show h ≠ g; omega); have f2 : w6.frozen? ⟨h, k, none⟩ = false := own_fr (own_ch HO.out hc6 hgB) k; have wq : IntKind.i64.wrap (u + y) = u + y := IntWalk.i64_in _ (by omega); have HO6 := Lib.hid ho; have HC6 := Lib.hid hc6; clear ho hc hc6)
          | (go_at_call 22; refine (clip_any (u + y) (by omega) (by omega) _).mono ?_; rintro e w7 ⟨⟨z, rfl, z0, z1⟩, rfl⟩))
        all_goals
          go_wp2
          go_roundw
          case rel =>
            have hst := ni_step hgB hlt HM.out HS.out z0 z1 HO.out hB HCW.out HO6.out HC6.out
            first | exact hst | exact hst.drwN _ | exact hst.drwN 1
          case measure => simp [intOf]; omega
      · go_wp2_with (go_at_call 22; refine (clip_any (u + b) (by omega) (by omega) _).mono ?_; rintro e w7 ⟨⟨z, rfl, z0, z1⟩, rfl⟩)
        go_roundw
        case rel => exact ni_step hgB hlt HM.out HS.out z0 z1 HO.out hB HCW.out HG.out Ch.rf
        case measure => simp [intOf]; omega
      · rcases (show kk = 1 ∨ kk = 2 ∨ kk = 3 by omega) with rfl | rfl | rfl
        · go_wp2_with (go_at_call 22; refine (clip_any (u + b) (by omega) (by omega) _).mono ?_; rintro e w7 ⟨⟨z, rfl, z0, z1⟩, rfl⟩)
          go_roundw
          case rel => exact ni_step hgB hlt HM.out HS.out z0 z1 HO.out hB HCW.out HG.out Ch.rf
          case measure => simp [intOf]; omega
        · go_wp2_with (go_at_call 22; refine (clip_any (u * 2 + b) (by omega) (by omega) _).mono ?_; rintro e w7 ⟨⟨z, rfl, z0, z1⟩, rfl⟩)
          go_roundw
          case rel => exact ni_step hgB hlt HM.out HS.out z0 z1 HO.out hB HCW.out HG.out Ch.rf
          case measure => simp [intOf]; omega
        · go_wp2_with (go_at_call 22; refine (clip_any (u * 3 + b) (by omega) (by omega) _).mono ?_; rintro e w7 ⟨⟨z, rfl, z0, z1⟩, rfl⟩)
          go_roundw
          case rel => exact ni_step hgB hlt HM.out HS.out z0 z1 HO.out hB HCW.out HG.out Ch.rf
          case measure => simp [intOf]; omega
      · obtain ⟨j, hj⟩ : ∃ j, n - 1 - k = j := ⟨_, rfl⟩
        have hji : (n : Int) - 1 - (k : Int) = (j : Int) := by omega
        have hjn : (j : Int) < (n : Int) := by omega
        have c3 := HAC.out j (by omega)
        obtain ⟨v, hv⟩ : ∃ v, L.getD j 0 = v := ⟨_, rfl⟩
        have pv := PX.out j
        rw [hv] at c3 pv
        obtain ⟨v0, v1⟩ := pv
        clear hv hj
        go_wp2
        go_roundw
        case rel => exact ni_step hgB hlt HM.out HS.out v0 v1 HO.out hB HCW.out HG.out Ch.rf
        case measure => simp [intOf]; omega
      · go_wp2_with fail
        go_at_call 21
        refine (range_any g (-1) 1 (by decide) (by decide) (by decide) _ HG.out).mono ?_
        rintro e w6 ⟨y, rfl, y0, y1, ho, hc⟩
        have HO6 := Lib.hid ho
        have HC6 := Lib.hid hc
        have m0 := Int.emod_nonneg ((k : Int) + y) (b := (n : Int)) (by omega)
        have m1 := Int.emod_lt_of_pos ((k : Int) + y) (b := (n : Int)) (by omega)
        have HMD : Hid (∀ W, Calls Tryz.prog 23 #[.int .i64 ((k : Int) + y), .int .i64 (n : Int)] W fun e w' => e = .returned (.int .i64 (((k : Int) + y) % (n : Int))) ∧ W = w') := fun W => mod_any _ _ (by omega) (by omega) (by omega) (by omega) W
        obtain ⟨j, hj⟩ := Int.eq_ofNat_of_zero_le m0
        rw [hj] at m1 HMD
        have c3 := hc.kp (HAC.out j (by omega)) (by rw [add_block]; exact HNE.out ad rfl)
        obtain ⟨v, hv⟩ : ∃ v, L.getD j 0 = v := ⟨_, rfl⟩
        have pv := PX.out j
        rw [hv] at c3 pv
        obtain ⟨v0, v1⟩ := pv
        have c2 : w6.cell? ⟨h, k, none⟩ = some (.int .i64 u) := hc.kp c1 (by show h ≠ g; omega)
        have f2 : w6.frozen? ⟨h, k, none⟩ = false := own_fr (own_ch HO.out hc hgB) k
        clear ho hc hj hv m0
        go_wp2_with (go_at_call 23; refine (HMD.out _).mono ?_; rintro e w7 ⟨rfl, rfl⟩)
        go_roundw
        case rel => exact ni_step hgB hlt HM.out HS.out v0 v1 HO.out hB HCW.out HO6.out HC6.out
        case measure => simp [intOf]; omega
      · rcases (show kk = 1 ∨ kk = 2 ∨ kk = 3 by omega) with rfl | rfl | rfl
        · go_wp2_with (go_at_call 22; refine (clip_any (b - u) (by omega) (by omega) _).mono ?_; rintro e w7 ⟨⟨z, rfl, z0, z1⟩, rfl⟩)
          go_roundw
          case rel => exact ni_step hgB hlt HM.out HS.out z0 z1 HO.out hB HCW.out HG.out Ch.rf
          case measure => simp [intOf]; omega
        · go_wp2_with (go_at_call 22; refine (clip_any (b - u * 2) (by omega) (by omega) _).mono ?_; rintro e w7 ⟨⟨z, rfl, z0, z1⟩, rfl⟩)
          go_roundw
          case rel => exact ni_step hgB hlt HM.out HS.out z0 z1 HO.out hB HCW.out HG.out Ch.rf
          case measure => simp [intOf]; omega
        · go_wp2_with (go_at_call 22; refine (clip_any (b - u * 3) (by omega) (by omega) _).mono ?_; rintro e w7 ⟨⟨z, rfl, z0, z1⟩, rfl⟩)
          go_roundw
          case rel => exact ni_step hgB hlt HM.out HS.out z0 z1 HO.out hB HCW.out HG.out Ch.rf
          case measure => simp [intOf]; omega
    · obtain rfl : k = n := by omega
      clear hown hM hS hog hcw
      go_wp2
      go_ret
      exact ⟨_, M, rfl, HO.out, HM.out, HS.out, HG.out, HCW.out⟩
def SomePair (g : Nat) (w : World) (e : Ending) (w' : World) : Prop := ∃ (a b c d n : Nat) (L M : List Int), e = .returned (.tuple #[.slice (some ⟨a, 0, none⟩) n b, .slice (some ⟨c, 0, none⟩) n d]) ∧ 2 ≤ n ∧ n ≤ 32 ∧ a < c ∧
  w'.ownsRow w.heap.size 3 1 (.slice (some ⟨a, 0, none⟩) n b) n (zs L) ∧ w'.ownsRow w.heap.size 3 1 (.slice (some ⟨c, 0, none⟩) n d) n (zs M) ∧ L.length = n ∧ M.length = n ∧ Sam L ∧ Sam M ∧ Ok w' g ∧ Ch g w w'
set_option maxHeartbeats 4000000 in
theorem pair_any (g : Nat) (w : World) (h : Ok w g) : Calls Tryz.prog 7 #[.pointer (some ⟨g, 0, none⟩)] w (SomePair g w) := by
  have HGB := Lib.hid h.lt
  have HO0 := Lib.hid h
  clear h
  go_enter Tryz.func7, Tryz.ntmps7
  go_wp2_with fail
  go_at_call 19
  refine (length_any g _ HO0.out).mono ?_
  rintro e w1 ⟨n0, rfl, n1, n2, ho, hc⟩
  obtain ⟨n, rfl⟩ := Int.eq_ofNat_of_zero_le (show 0 ≤ n0 by omega)
  have HO1 := Lib.hid ho
  have HC1 := Lib.hid hc
  clear ho hc
  go_wp2_with fail
  go_at_call 18
  refine (list_any g n (by omega) _ HO1.out).mono ?_
  rintro e w2 ⟨v, L, rfl, hown, hL, hS, ho, hc⟩
  obtain ⟨a, b, rfl, hcap, ha⟩ := row_form hown (by omega)
  have HO2 := Lib.hid ho
  have HC2 := Lib.hid (HC1.out.tr hc)
  have HOA := Lib.hid hown
  have HL := Lib.hid hL
  have HS := Lib.hid hS
  have hga : g < a := by have := HGB.out; have := HC1.out.sz; omega
  have ha2 := (hown.lt a rfl).2
  clear ho hc hown hL hS
  go_wp2_with fail
  go_at_call 20
  refine (n_any g 3 (by decide) (by decide) _ HO2.out).mono ?_
  rintro e w3 ⟨x, rfl, x0, x1, ho, hc⟩
  have HO3 := Lib.hid ho
  have HC3 := Lib.hid (HC2.out.tr hc)
  have hz3 := hc.sz
  have HOA3 := Lib.hid (own_ch HOA.out hc (by have := HGB.out; have := HC1.out.sz; omega))
  clear ho hc
  rcases (show x = 0 ∨ x ≠ 0 by omega) with rfl | hx
  · go_wp2_with (go_at_call 18; refine (list_any g n (by omega) _ HO3.out).mono ?_; rintro e w4 ⟨v, M, rfl, hown, hM, hS, ho, hc⟩; obtain ⟨a', b', rfl, hcap', ha'⟩ := row_form hown (by omega))
    go_ret2
    exact ⟨a, b, a', b', n, L, M, rfl, by omega, by omega, by omega, (own_ch HOA3.out hc (by have := HGB.out; have := HC1.out.sz; omega)).mono HC1.out.sz, hown.mono HC3.out.sz, HL.out, hM, HS.out, hS, ho, HC3.out.tr hc⟩
  · go_wp2_with (go_at_call 8; refine (near_any g (some ⟨a, 0, none⟩) b n L (by omega) (by omega) HS.out _ HO3.out (own_zi HOA3.out HL.out) (fun ad e => by cases e; show a ≠ g; omega)).mono ?_; rintro e w4 ⟨v, M, rfl, hown, hM, hS, ho, hc⟩; obtain ⟨a', b', rfl, hcap', ha'⟩ := row_form hown (by omega))
    go_ret2
    exact ⟨a, b, a', b', n, L, M, rfl, by omega, by omega, by omega, (own_ch HOA3.out hc (by have := HGB.out; have := HC1.out.sz; omega)).mono HC1.out.sz, hown.mono HC3.out.sz, HL.out, hM, HS.out, hS, ho, HC3.out.tr hc⟩
end Go.Proofs.YtpbnabibnkohdaaGreatDoor.Sr
namespace Go.Proofs.YtpbnabibnkohdaaGreatDoor.Ms
open Go.ChangeShapes Go.WideShapes Go.RowKit Wo Sr Wi
set_option linter.unusedVariables false
theorem results_m {fn : Func} {p : Tmp} (h : fn.results = #[.cell p 38]) (tmps : Array Value) (w : World) (g : Nat) (a b c : Value)
    (hp : tmps.getD p undef = .pointer (some ⟨g, 0, none⟩)) (hg : Bk w g 38 #[a, b, c]) : (results fn tmps).run Tryz.prog w = .ok (.agg #[a, b, c]) w := by
  have hp' : tmps[p]?.getD undef = .pointer (some ⟨g, 0, none⟩) := by simpa using hp
  have hl := run_loadVar_row (P := Tryz.prog) w g 38 38 #[a, b, c] (0, 0) _ hg Tryz.underlying38 rfl (by kernel_rfl)
  simp [results, h, hp', asAddr, hl]
def SomeMv (q : Nat) (w : World) (e : Ending) (w' : World) : Prop := ∃ k b g, e = .returned (.agg #[.int .i64 k, .int .i64 b, .int .i64 g]) ∧ Mv k b g ∧ Ok w' q ∧ Ch q w w'
set_option maxHeartbeats 4000000 in
set_option maxRecDepth 100000 in
theorem measure_any (q : Nat) (w : World) (h : Ok w q) : Calls Tryz.prog 14 #[.pointer (some ⟨q, 0, none⟩)] w (SomeMv q w) := by
  have HGB := Lib.hid h.lt
  have HO0 := Lib.hid h
  clear h
  go_enter Tryz.func14, Tryz.ntmps14
  go_wp2_with fail
  go_at_call 21
  refine (range_any q 1 5 (by decide) (by decide) (by decide) _ (HO0.out.bel (Bel.rf.al _))).mono ?_
  rintro e w1 ⟨k, rfl, k0, k1, ho, hc⟩
  have HO1 := Lib.hid ho
  have HC1 : Hid (Ch q w w1) := (Ch.of_bel (Bel.rf.al _)).tr hc
  have HR1 : Hid (Bk w1 w.heap.size 38 #[.int .i64 0, .int .i64 0, .int .i64 0]) := hc.bk (Bk.nw _ _ _) (by have := HGB.out; omega)
  clear ho hc
  rcases (by omega : k = 1 ∨ k = 2 ∨ k = 3 ∨ k = 4 ∨ k = 5) with rfl | rfl | rfl | rfl | rfl
  · have r0 : w1.cell? ⟨w.heap.size, 0, none⟩ = some (.int .i64 0) := HR1.out.cell 0
    have r1 : w1.cell? ⟨w.heap.size, 1, none⟩ = some (.int .i64 0) := HR1.out.cell 1
    have r2 : w1.cell? ⟨w.heap.size, 2, none⟩ = some (.int .i64 0) := HR1.out.cell 2
    have f0 := HR1.out.fr 0
    have f1 := HR1.out.fr 1
    have f2 := HR1.out.fr 2
    have lt0 : w.heap.size < w1.heap.size := HR1.out.lt
    go_wp2
    have HBF : Bk ((((w1.setCell ⟨w.heap.size, 0, none⟩ (.int .i64 1)).setCell ⟨w.heap.size, 1, none⟩ (.int .i64 0)).setCell ⟨w.heap.size, 2, none⟩ (.int .i64 0)).alloc (.cells #[.int .i64 1, .int .i64 0, .int .i64 0] 38)) w.heap.size 38 #[.int .i64 1, .int .i64 0, .int .i64 0] := (((HR1.out.st 0 _).st 1 _).st 2 _).al _
    exact bodyPost_ret (v := .agg #[.int .i64 1, .int .i64 0, .int .i64 0]) (results_m Tryz.results14 _ _ _ _ _ _ rfl HBF) rfl ⟨1, 0, 0, rfl, .inl ⟨.inl rfl, rfl, rfl⟩, ((((HO1.out.st HGB.out _).st HGB.out _).st HGB.out _).bel (Bel.rf.al _)), ((((HC1.out.st2 (Nat.le_refl _) _).st2 (Nat.le_refl _) _).st2 (Nat.le_refl _) _).tr (Ch.of_bel (Bel.rf.al _)))⟩
  · have r0 : w1.cell? ⟨w.heap.size, 0, none⟩ = some (.int .i64 0) := HR1.out.cell 0
    have r1 : w1.cell? ⟨w.heap.size, 1, none⟩ = some (.int .i64 0) := HR1.out.cell 1
    have r2 : w1.cell? ⟨w.heap.size, 2, none⟩ = some (.int .i64 0) := HR1.out.cell 2
    have f0 := HR1.out.fr 0
    have f1 := HR1.out.fr 1
    have f2 := HR1.out.fr 2
    have lt0 : w.heap.size < w1.heap.size := HR1.out.lt
    go_wp2
    have HBF : Bk ((((w1.setCell ⟨w.heap.size, 0, none⟩ (.int .i64 2)).setCell ⟨w.heap.size, 1, none⟩ (.int .i64 0)).setCell ⟨w.heap.size, 2, none⟩ (.int .i64 0)).alloc (.cells #[.int .i64 2, .int .i64 0, .int .i64 0] 38)) w.heap.size 38 #[.int .i64 2, .int .i64 0, .int .i64 0] := (((HR1.out.st 0 _).st 1 _).st 2 _).al _
    exact bodyPost_ret (v := .agg #[.int .i64 2, .int .i64 0, .int .i64 0]) (results_m Tryz.results14 _ _ _ _ _ _ rfl HBF) rfl ⟨2, 0, 0, rfl, .inl ⟨.inr (.inl rfl), rfl, rfl⟩, ((((HO1.out.st HGB.out _).st HGB.out _).st HGB.out _).bel (Bel.rf.al _)), ((((HC1.out.st2 (Nat.le_refl _) _).st2 (Nat.le_refl _) _).st2 (Nat.le_refl _) _).tr (Ch.of_bel (Bel.rf.al _)))⟩
  · have r0 : w1.cell? ⟨w.heap.size, 0, none⟩ = some (.int .i64 0) := HR1.out.cell 0
    have r1 : w1.cell? ⟨w.heap.size, 1, none⟩ = some (.int .i64 0) := HR1.out.cell 1
    have r2 : w1.cell? ⟨w.heap.size, 2, none⟩ = some (.int .i64 0) := HR1.out.cell 2
    have f0 := HR1.out.fr 0
    have f1 := HR1.out.fr 1
    have f2 := HR1.out.fr 2
    have lt0 : w.heap.size < w1.heap.size := HR1.out.lt
    go_wp2
    have HBF : Bk ((((w1.setCell ⟨w.heap.size, 0, none⟩ (.int .i64 3)).setCell ⟨w.heap.size, 1, none⟩ (.int .i64 0)).setCell ⟨w.heap.size, 2, none⟩ (.int .i64 0)).alloc (.cells #[.int .i64 3, .int .i64 0, .int .i64 0] 38)) w.heap.size 38 #[.int .i64 3, .int .i64 0, .int .i64 0] := (((HR1.out.st 0 _).st 1 _).st 2 _).al _
    exact bodyPost_ret (v := .agg #[.int .i64 3, .int .i64 0, .int .i64 0]) (results_m Tryz.results14 _ _ _ _ _ _ rfl HBF) rfl ⟨3, 0, 0, rfl, .inl ⟨.inr (.inr rfl), rfl, rfl⟩, ((((HO1.out.st HGB.out _).st HGB.out _).st HGB.out _).bel (Bel.rf.al _)), ((((HC1.out.st2 (Nat.le_refl _) _).st2 (Nat.le_refl _) _).st2 (Nat.le_refl _) _).tr (Ch.of_bel (Bel.rf.al _)))⟩
  · have HA1 : Hid (Ok (w1.alloc (.cells #[.int .i64 4, .int .i64 0, .int .i64 0] 38)) q) := HO1.out.bel (Bel.rf.al _)
    go_wp2_with fail
    go_at_call 40
    refine (pick_any q _ [0, 1, 2, 3, 5, 32] 6 (by rfl) (by decide) (by decide) (Nat.ne_of_gt (Nat.lt_of_lt_of_le HGB.out (Nat.le_trans HC1.out.sz (Nat.le_succ _)))) _ (HA1.out.bel (Bel.rf.al _)) (lst_new _ _ _ _ (by rfl) _ (by simp))).mono ?_
    rintro e w2 ⟨x, rfl, hx, ho, hc⟩
    have hxr : 0 ≤ x ∧ x ≤ 32 := by simp at hx; omega
    obtain ⟨x0, x1⟩ := hxr
    have HR2 := hc.bk ((HR1.out.al (.cells #[.int .i64 4, .int .i64 0, .int .i64 0] 38)).al (.cells _ _)) (by have := HGB.out; omega)
    have HM2 : Bk w2 w1.heap.size 38 #[.int .i64 4, .int .i64 0, .int .i64 0] := hc.bk ((Bk.nw _ _ _).al _) (by have := HGB.out; have := HC1.out.sz; omega)
    have HO2 := Lib.hid ho
    have HC2 : Hid (Ch q w w2) := HC1.out.tr ((Ch.of_bel ((Bel.rf.al _).al _)).tr hc)
    have HSZ := Lib.hid HC1.out.sz
    have m0 : w2.cell? ⟨w1.heap.size, 0, none⟩ = some (.int .i64 4) := HM2.cell 0
    have m1 : w2.cell? ⟨w1.heap.size, 1, none⟩ = some (.int .i64 0) := HM2.cell 1
    have m2 : w2.cell? ⟨w1.heap.size, 2, none⟩ = some (.int .i64 0) := HM2.cell 2
    have n0 := HM2.fr 0
    have n1 := HM2.fr 1
    have n2 := HM2.fr 2
    have r0 : w2.cell? ⟨w.heap.size, 0, none⟩ = some (.int .i64 0) := HR2.cell 0
    have r1 : w2.cell? ⟨w.heap.size, 1, none⟩ = some (.int .i64 0) := HR2.cell 1
    have r2 : w2.cell? ⟨w.heap.size, 2, none⟩ = some (.int .i64 0) := HR2.cell 2
    have f0 := HR2.fr 0
    have f1 := HR2.fr 1
    have f2 := HR2.fr 2
    have lt0 : w.heap.size < w2.heap.size := HR2.lt
    have hne : w.heap.size ≠ w1.heap.size := by have := HR1.out.lt; omega
    have HR2H := Lib.hid HR2
    clear ho hc hx HR2 HM2
    go_wp2
    have HBF : Bk ((((w2.setCell ⟨w1.heap.size, 1, none⟩ (.int .i64 x)).setCell ⟨w.heap.size, 0, none⟩ (.int .i64 4)).setCell ⟨w.heap.size, 1, none⟩ (.int .i64 x)).setCell ⟨w.heap.size, 2, none⟩ (.int .i64 0)) w.heap.size 38 #[.int .i64 4, .int .i64 x, .int .i64 0] := (((Bk.far HR2H.out hne _).st 0 _).st 1 _).st 2 _
    exact bodyPost_ret (v := .agg #[.int .i64 4, .int .i64 x, .int .i64 0]) (results_m Tryz.results14 _ _ _ _ _ _ rfl HBF) rfl ⟨4, x, 0, rfl, .inr (.inl ⟨rfl, x0, x1, rfl⟩), ((((HO2.out.st (Nat.lt_of_lt_of_le HGB.out HSZ.out) _).st HGB.out _).st HGB.out _).st HGB.out _), ((((HC2.out.st2 HSZ.out _).st2 (Nat.le_refl _) _).st2 (Nat.le_refl _) _).st2 (Nat.le_refl _) _)⟩
  · have HA1 : Hid (Ok (w1.alloc (.cells #[.int .i64 5, .int .i64 0, .int .i64 0] 38)) q) := HO1.out.bel (Bel.rf.al _)
    go_wp2_with fail
    go_at_call 40
    refine (pick_any q _ [0, 0, 1, -3, 20, -1000] 6 (by rfl) (by decide) (by decide) (Nat.ne_of_gt (Nat.lt_of_lt_of_le HGB.out (Nat.le_trans HC1.out.sz (Nat.le_succ _)))) _ (HA1.out.bel (Bel.rf.al _)) (lst_new _ _ _ _ (by rfl) _ (by simp))).mono ?_
    rintro e w2 ⟨x, rfl, hx, ho, hc⟩
    have hxr : -1000 ≤ x ∧ x ≤ 1000 := by simp at hx; omega
    obtain ⟨x0, x1⟩ := hxr
    have HR2 := hc.bk ((HR1.out.al (.cells #[.int .i64 5, .int .i64 0, .int .i64 0] 38)).al (.cells _ _)) (by have := HGB.out; omega)
    have HM2 : Bk w2 w1.heap.size 38 #[.int .i64 5, .int .i64 0, .int .i64 0] := hc.bk ((Bk.nw _ _ _).al _) (by have := HGB.out; have := HC1.out.sz; omega)
    have HO2 := Lib.hid ho
    have HC2 : Hid (Ch q w w2) := HC1.out.tr ((Ch.of_bel ((Bel.rf.al _).al _)).tr hc)
    have HSZ := Lib.hid HC1.out.sz
    have m0 : w2.cell? ⟨w1.heap.size, 0, none⟩ = some (.int .i64 5) := HM2.cell 0
    have m1 : w2.cell? ⟨w1.heap.size, 1, none⟩ = some (.int .i64 0) := HM2.cell 1
    have m2 : w2.cell? ⟨w1.heap.size, 2, none⟩ = some (.int .i64 0) := HM2.cell 2
    have n0 := HM2.fr 0
    have n1 := HM2.fr 1
    have n2 := HM2.fr 2
    have r0 : w2.cell? ⟨w.heap.size, 0, none⟩ = some (.int .i64 0) := HR2.cell 0
    have r1 : w2.cell? ⟨w.heap.size, 1, none⟩ = some (.int .i64 0) := HR2.cell 1
    have r2 : w2.cell? ⟨w.heap.size, 2, none⟩ = some (.int .i64 0) := HR2.cell 2
    have f0 := HR2.fr 0
    have f1 := HR2.fr 1
    have f2 := HR2.fr 2
    have lt0 : w.heap.size < w2.heap.size := HR2.lt
    have hne : w.heap.size ≠ w1.heap.size := by have := HR1.out.lt; omega
    have HR2H := Lib.hid HR2
    clear ho hc hx HR2 HM2
    go_wp2
    have HBF : Bk ((((w2.setCell ⟨w1.heap.size, 2, none⟩ (.int .i64 x)).setCell ⟨w.heap.size, 0, none⟩ (.int .i64 5)).setCell ⟨w.heap.size, 1, none⟩ (.int .i64 0)).setCell ⟨w.heap.size, 2, none⟩ (.int .i64 x)) w.heap.size 38 #[.int .i64 5, .int .i64 0, .int .i64 x] := (((Bk.far HR2H.out hne _).st 0 _).st 1 _).st 2 _
    exact bodyPost_ret (v := .agg #[.int .i64 5, .int .i64 0, .int .i64 x]) (results_m Tryz.results14 _ _ _ _ _ _ rfl HBF) rfl ⟨5, 0, x, rfl, .inr (.inr ⟨rfl, rfl, x0, x1⟩), ((((HO2.out.st (Nat.lt_of_lt_of_le HGB.out HSZ.out) _).st HGB.out _).st HGB.out _).st HGB.out _), ((((HC2.out.st2 HSZ.out _).st2 (Nat.le_refl _) _).st2 (Nat.le_refl _) _).st2 (Nat.le_refl _) _)⟩
end Go.Proofs.YtpbnabibnkohdaaGreatDoor.Ms
namespace Go.Proofs.YtpbnabibnkohdaaGreatDoor.Wi
set_option linter.unusedVariables false
/-- the cost of a pair -/
def cst (X Y : List Int) (i j : Nat) : Int := (X.getD i 0 - Y.getD j 0) * (X.getD i 0 - Y.getD j 0)
theorem cst_in {X Y : List Int} (hs : Sam X) (ht : Sam Y) (i j : Nat) : 0 ≤ cst X Y i j ∧ cst X Y i j ≤ 4000000 := by
  have a := hs.at i
  have b := ht.at j
  exact sq_bd (B := 2000) (by omega) (by omega)
/-- a pair is within the band -/
def Bnd (b : Int) (i j : Nat) : Prop := (i : Int) - (j : Int) ≤ b ∧ (j : Int) - (i : Int) ≤ b
instance (b : Int) (i j : Nat) : Decidable (Bnd b i j) := by unfold Bnd; infer_instance
theorem Bnd.sym {b : Int} {i j : Nat} (h : Bnd b i j) : Bnd b j i := ⟨h.2, h.1⟩
def mn (a b : Int) : Int := if a ≤ b then a else b
theorem mn_le_left (a b : Int) : mn a b ≤ a := by unfold mn; split <;> omega
theorem mn_le_right (a b : Int) : mn a b ≤ b := by unfold mn; split <;> omega
theorem mn_comm (a b : Int) : mn a b = mn b a := by unfold mn; split <;> split <;> omega
theorem mn_or (a b : Int) : mn a b = a ∨ mn a b = b := by unfold mn; split <;> simp
theorem mn_ge {a b c : Int} (h1 : c ≤ a) (h2 : c ≤ b) : c ≤ mn a b := by unfold mn; split <;> omega
def mn3 (a b c : Int) : Int := mn (mn a b) c
theorem mn3_le (a b c : Int) : mn3 a b c ≤ a ∧ mn3 a b c ≤ b ∧ mn3 a b c ≤ c := by
  have h1 := mn_le_left (mn a b) c
  have h2 := mn_le_right (mn a b) c
  have h3 := mn_le_left a b
  have h4 := mn_le_right a b
  unfold mn3
  omega
theorem mn3_or (a b c : Int) : mn3 a b c = a ∨ mn3 a b c = b ∨ mn3 a b c = c := by
  unfold mn3
  rcases mn_or (mn a b) c with h | h
  · rw [h]
    rcases mn_or a b with h | h
    · exact .inl h
    · exact .inr (.inl h)
  · exact .inr (.inr h)
theorem mn3_swap (a b c : Int) : mn3 a b c = mn3 a c b := by unfold mn3 mn; repeat' split
                                                             all_goals omega
/-- what stands where no path leads -/
def far : Int := 4611686018427387904
/-- the least costs of the paths up to a pair, with a border -/
def wt (X Y : List Int) (b : Int) : Nat → Nat → Int
  | 0, 0 => 0
  | 0, _ + 1 => far
  | _ + 1, 0 => far
  | i + 1, j + 1 => if Bnd b i j then cst X Y i j + mn3 (wt X Y b i j) (wt X Y b i (j + 1)) (wt X Y b (i + 1) j) else far
termination_by i j => (i, j)
theorem wt_00 (X Y : List Int) (b : Int) : wt X Y b 0 0 = 0 := by rw [wt]
theorem wt_0s (X Y : List Int) (b : Int) (j : Nat) : wt X Y b 0 (j + 1) = far := by rw [wt]
theorem wt_s0 (X Y : List Int) (b : Int) (i : Nat) : wt X Y b (i + 1) 0 = far := by rw [wt]
theorem wt_in (X Y : List Int) (b : Int) (i j : Nat) (h : Bnd b i j) : wt X Y b (i + 1) (j + 1) = cst X Y i j + mn3 (wt X Y b i j) (wt X Y b i (j + 1)) (wt X Y b (i + 1) j) := by rw [wt, if_pos h]
theorem wt_out (X Y : List Int) (b : Int) (i j : Nat) (h : ¬ Bnd b i j) : wt X Y b (i + 1) (j + 1) = far := by rw [wt, if_neg h]
/-- one pair follows another -/
def Fol (i j p q : Nat) : Prop := (p = i + 1 ∧ q = j + 1) ∨ (p = i + 1 ∧ q = j) ∨ (p = i ∧ q = j + 1)
/-- a path, the pair where it begins, the one where it ends, its cost -/
inductive Pq (X Y : List Int) (b : Int) : Nat → Nat → List (Nat × Nat) → Nat → Nat → Int → Prop
  | one (i j : Nat) (h : Bnd b i j) : Pq X Y b i j [(i, j)] i j (cst X Y i j)
  | snoc {a c i j p q : Nat} {l : List (Nat × Nat)} {k : Int} (hp : Pq X Y b a c l i j k) (hf : Fol i j p q) (h : Bnd b p q) : Pq X Y b a c (l ++ [(p, q)]) p q (k + cst X Y p q)
theorem Pq.bnd {X Y : List Int} {b : Int} {a c i j : Nat} {l : List (Nat × Nat)} {k : Int} (h : Pq X Y b a c l i j k) : Bnd b i j := by
  cases h with
  | one h => exact h
  | snoc _ _ h => exact h
theorem Pq.cons {X Y : List Int} {b : Int} {a c i j p q : Nat} {l : List (Nat × Nat)} {k : Int} (hf : Fol p q a c) (hb : Bnd b p q) (h : Pq X Y b a c l i j k) : Pq X Y b p q ((p, q) :: l) i j (cst X Y p q + k) := by
  induction h with
  | one h =>
    have := Pq.snoc (Pq.one (X := X) (Y := Y) p q hb) hf h
    exact this
  | snoc hp hf2 h ih =>
    have := Pq.snoc ih hf2 h
    rw [Int.add_assoc] at this
    exact this
theorem wt_le {X Y : List Int} {b : Int} {i j : Nat} {l : List (Nat × Nat)} {k : Int} (h : Pq X Y b 0 0 l i j k) : wt X Y b (i + 1) (j + 1) ≤ k := by
  have key : ∀ {a c i j : Nat} {l : List (Nat × Nat)} {k : Int}, Pq X Y b a c l i j k → a = 0 → c = 0 → wt X Y b (i + 1) (j + 1) ≤ k := by
    intro a c i j l k h
    induction h with
    | one h =>
      rintro rfl rfl
      rw [wt_in _ _ _ _ _ h]
      have := (mn3_le (wt X Y b 0 0) (wt X Y b 0 (0 + 1)) (wt X Y b (0 + 1) 0)).1
      rw [wt_00] at this
      rw [wt_00]
      omega
    | @snoc i j p q l k hp hf h ih =>
      intro ha hc
      have h1 := ih ha hc
      rw [wt_in _ _ _ _ _ h]
      have h2 := mn3_le (wt X Y b p q) (wt X Y b p (q + 1)) (wt X Y b (p + 1) q)
      rcases hf with ⟨rfl, rfl⟩ | ⟨rfl, rfl⟩ | ⟨rfl, rfl⟩ <;> omega
  exact key h rfl rfl
/-- every pair within the band is reached -/
theorem wt_fin {X Y : List Int} {b : Int} (hs : Sam X) (ht : Sam Y) (hb : 0 ≤ b) : ∀ (n i j : Nat), i + j = n → Bnd b i j → 0 ≤ wt X Y b (i + 1) (j + 1) ∧ wt X Y b (i + 1) (j + 1) ≤ 4000000 * ((n : Int) + 1) := by
  have nn : ∀ (n i j : Nat), i + j = n → 0 ≤ wt X Y b i j := by
    intro n
    induction n using Nat.strongRecOn with
    | _ n ih =>
      intro i j h
      rcases i with _ | i
      · rcases j with _ | j
        · rw [wt_00]; omega
        · rw [wt_0s]; decide
      · rcases j with _ | j
        · rw [wt_s0]; decide
        · rcases Classical.em (Bnd b i j) with hB | hB
          · rw [wt_in _ _ _ _ _ hB]
            have h1 := ih (i + j) (by omega) i j rfl
            have h2 := ih (i + (j + 1)) (by omega) i (j + 1) rfl
            have h3 := ih (i + 1 + j) (by omega) (i + 1) j rfl
            have h4 := (cst_in hs ht i j).1
            have h5 : 0 ≤ mn3 (wt X Y b i j) (wt X Y b i (j + 1)) (wt X Y b (i + 1) j) := mn_ge (mn_ge h1 h2) h3
            omega
          · rw [wt_out _ _ _ _ _ hB]; decide
  intro n
  induction n using Nat.strongRecOn with
  | _ n ih =>
    intro i j h hB
    refine ⟨nn _ _ _ rfl, ?_⟩
    rw [wt_in _ _ _ _ _ hB]
    have hc := (cst_in hs ht i j).2
    have hm := mn3_le (wt X Y b i j) (wt X Y b i (j + 1)) (wt X Y b (i + 1) j)
    rcases i with _ | i
    · rcases j with _ | j
      · rw [wt_00] at *; omega
      · have := (ih j (by omega) 0 j (by omega) ⟨by have := hB.1; omega, by have := hB.2; omega⟩).2
        omega
    · rcases j with _ | j
      · have := (ih i (by omega) i 0 (by omega) ⟨by have := hB.1; omega, by have := hB.2; omega⟩).2
        omega
      · have := (ih (i + j) (by omega) i j (by omega) ⟨by have := hB.1; omega, by have := hB.2; omega⟩).2
        omega
theorem wt_nn {X Y : List Int} {b : Int} (hs : Sam X) (ht : Sam Y) (i j : Nat) : 0 ≤ wt X Y b i j := by
  have : ∀ (n i j : Nat), i + j = n → 0 ≤ wt X Y b i j := by
    intro n
    induction n using Nat.strongRecOn with
    | _ n ih =>
      intro i j h
      rcases i with _ | i
      · rcases j with _ | j
        · rw [wt_00]; omega
        · rw [wt_0s]; decide
      · rcases j with _ | j
        · rw [wt_s0]; decide
        · rcases Classical.em (Bnd b i j) with hB | hB
          · rw [wt_in _ _ _ _ _ hB]
            have h1 := ih (i + j) (by omega) i j rfl
            have h2 := ih (i + (j + 1)) (by omega) i (j + 1) rfl
            have h3 := ih (i + 1 + j) (by omega) (i + 1) j rfl
            have h4 := (cst_in hs ht i j).1
            have h5 : 0 ≤ mn3 (wt X Y b i j) (wt X Y b i (j + 1)) (wt X Y b (i + 1) j) := mn_ge (mn_ge h1 h2) h3
            omega
          · rw [wt_out _ _ _ _ _ hB]; decide
  exact this _ _ _ rfl
/-- a bound for all numbers of the table -/
theorem wt_hi {X Y : List Int} {b : Int} (hs : Sam X) (ht : Sam Y) (hb : 0 ≤ b) (i j : Nat) (hi : i ≤ 64) (hj : j ≤ 64) : wt X Y b i j ≤ far := by
  rcases i with _ | i
  · rcases j with _ | j
    · rw [wt_00]; decide
    · rw [wt_0s]; decide
  · rcases j with _ | j
    · rw [wt_s0]; decide
    · rcases Classical.em (Bnd b i j) with hB | hB
      · have := (wt_fin hs ht hb _ i j rfl hB).2
        unfold far
        omega
      · rw [wt_out _ _ _ _ _ hB]; decide
/-- the pair ahead of a pair within the band, as Path takes it -/
def bk (X Y : List Int) (b : Int) (i j : Nat) : Nat × Nat :=
  if wt X Y b i j ≤ wt X Y b i (j + 1) ∧ wt X Y b i j ≤ wt X Y b (i + 1) j then (i - 1, j - 1) else if wt X Y b i (j + 1) ≤ wt X Y b (i + 1) j then (i - 1, j) else (i, j - 1)
theorem wt_small {X Y : List Int} {b : Int} (hs : Sam X) (ht : Sam Y) (hb : 0 ≤ b) {i j : Nat} (hi : i ≤ 64) (hj : j ≤ 64) (hB : Bnd b i j) : wt X Y b (i + 1) (j + 1) < far := by
  have := (wt_fin hs ht hb _ i j rfl hB).2
  unfold far
  omega
theorem wt_cell {X Y : List Int} {b : Int} {i j : Nat} (h : wt X Y b i j < far) : (i = 0 ∧ j = 0) ∨ ∃ p q, i = p + 1 ∧ j = q + 1 ∧ Bnd b p q := by
  rcases i with _ | i
  · rcases j with _ | j
    · exact .inl ⟨rfl, rfl⟩
    · rw [wt_0s] at h; omega
  · rcases j with _ | j
    · rw [wt_s0] at h; omega
    · rcases Classical.em (Bnd b i j) with hB | hB
      · exact .inr ⟨i, j, rfl, rfl, hB⟩
      · rw [wt_out _ _ _ _ _ hB] at h; omega
/-- the pair ahead lies within the band, is followed by the pair, and has the least cost -/
theorem bk_ok {X Y : List Int} {b : Int} (hs : Sam X) (ht : Sam Y) (hb : 0 ≤ b) {i j : Nat} (hi : i ≤ 60) (hj : j ≤ 60) (hB : Bnd b i j) (h0 : 0 < i + j) :
    Fol (bk X Y b i j).1 (bk X Y b i j).2 i j ∧ Bnd b (bk X Y b i j).1 (bk X Y b i j).2 ∧ wt X Y b (i + 1) (j + 1) = cst X Y i j + wt X Y b ((bk X Y b i j).1 + 1) ((bk X Y b i j).2 + 1) := by
  have hW := wt_in X Y b i j hB
  have hS := wt_small hs ht hb (by omega) (by omega) hB
  have hc := (cst_in hs ht i j).1
  have hm : mn3 (wt X Y b i j) (wt X Y b i (j + 1)) (wt X Y b (i + 1) j) < far := by omega
  unfold bk
  rcases Classical.em (wt X Y b i j ≤ wt X Y b i (j + 1) ∧ wt X Y b i j ≤ wt X Y b (i + 1) j) with h1 | h1
  · rw [if_pos h1]
    have e : mn3 (wt X Y b i j) (wt X Y b i (j + 1)) (wt X Y b (i + 1) j) = wt X Y b i j := by
      have := mn3_le (wt X Y b i j) (wt X Y b i (j + 1)) (wt X Y b (i + 1) j)
      rcases mn3_or (wt X Y b i j) (wt X Y b i (j + 1)) (wt X Y b (i + 1) j) with h | h | h <;> omega
    rw [e] at hW hm
    rcases wt_cell hm with ⟨rfl, rfl⟩ | ⟨p, q, rfl, rfl, hpq⟩
    · omega
    · exact ⟨.inl ⟨by simp, by simp⟩, by simpa using hpq, by simpa using hW⟩
  · rw [if_neg h1]
    rcases Int.lt_or_le (wt X Y b (i + 1) j) (wt X Y b i (j + 1)) with h2 | h2
    · rw [if_neg (by omega)]
      have e : mn3 (wt X Y b i j) (wt X Y b i (j + 1)) (wt X Y b (i + 1) j) = wt X Y b (i + 1) j := by
        have := mn3_le (wt X Y b i j) (wt X Y b i (j + 1)) (wt X Y b (i + 1) j)
        rcases mn3_or (wt X Y b i j) (wt X Y b i (j + 1)) (wt X Y b (i + 1) j) with h | h | h <;> omega
      rw [e] at hW hm
      rcases wt_cell hm with ⟨h, _⟩ | ⟨p, q, hp, rfl, hpq⟩
      · omega
      · obtain rfl : i = p := by omega
        exact ⟨.inr (.inr ⟨by simp, by simp⟩), by simpa using hpq, by simpa using hW⟩
    · rw [if_pos h2]
      have e : mn3 (wt X Y b i j) (wt X Y b i (j + 1)) (wt X Y b (i + 1) j) = wt X Y b i (j + 1) := by
        have := mn3_le (wt X Y b i j) (wt X Y b i (j + 1)) (wt X Y b (i + 1) j)
        rcases mn3_or (wt X Y b i j) (wt X Y b i (j + 1)) (wt X Y b (i + 1) j) with h | h | h <;> omega
      rw [e] at hW hm
      rcases wt_cell hm with ⟨_, h⟩ | ⟨p, q, rfl, hq, hpq⟩
      · omega
      · obtain rfl : j = q := by omega
        exact ⟨.inr (.inl ⟨by simp, by simp⟩), by simpa using hpq, by simpa using hW⟩
theorem wt_one {X Y : List Int} {b : Int} (hb : 0 ≤ b) : wt X Y b 1 1 = cst X Y 0 0 := by
  rw [wt_in _ _ _ 0 0 ⟨by simpa using hb, by simpa using hb⟩, wt_00, wt_0s, wt_s0]
  show _ + mn3 0 far far = _
  rw [show mn3 0 far far = 0 from by decide]
  omega
/-- a path of the least cost -/
theorem wt_path {X Y : List Int} {b : Int} (hs : Sam X) (ht : Sam Y) (hb : 0 ≤ b) : ∀ (n i j : Nat), i + j = n → i ≤ 60 → j ≤ 60 → Bnd b i j → ∃ l, Pq X Y b 0 0 l i j (wt X Y b (i + 1) (j + 1)) := by
  intro n
  induction n using Nat.strongRecOn with
  | _ n ih =>
    intro i j h hi hj hB
    rcases Nat.eq_zero_or_pos (i + j) with h0 | h0
    · obtain rfl : i = 0 := by omega
      obtain rfl : j = 0 := by omega
      exact ⟨_, by rw [wt_one hb]; exact Pq.one 0 0 hB⟩
    · obtain ⟨f, B, e⟩ := bk_ok hs ht hb hi hj hB h0
      have lt : (bk X Y b i j).1 + (bk X Y b i j).2 < n ∧ (bk X Y b i j).1 ≤ 60 ∧ (bk X Y b i j).2 ≤ 60 := by
        rcases f with ⟨h1, h2⟩ | ⟨h1, h2⟩ | ⟨h1, h2⟩ <;> omega
      obtain ⟨l, hl⟩ := ih _ lt.1 _ _ rfl lt.2.1 lt.2.2 B
      refine ⟨l ++ [(i, j)], ?_⟩
      rw [e, Int.add_comm]
      exact Pq.snoc hl f hB
theorem wt_sym (X Y : List Int) (b : Int) : ∀ (n i j : Nat), i + j = n → wt X Y b i j = wt Y X b j i := by
  intro n
  induction n using Nat.strongRecOn with
  | _ n ih =>
    intro i j h
    rcases i with _ | i
    · rcases j with _ | j
      · rw [wt_00, wt_00]
      · rw [wt_0s, wt_s0]
    · rcases j with _ | j
      · rw [wt_s0, wt_0s]
      · rcases Classical.em (Bnd b i j) with hB | hB
        · rw [wt_in _ _ _ _ _ hB, wt_in _ _ _ _ _ hB.sym, ih (i + j) (by omega) i j rfl, ih (i + (j + 1)) (by omega) i (j + 1) rfl, ih (i + 1 + j) (by omega) (i + 1) j rfl, mn3_swap]
          congr 1
          unfold cst
          grind
        · rw [wt_out _ _ _ _ _ hB, wt_out _ _ _ _ _ (fun h => hB h.sym)]
theorem wt_mono {X Y : List Int} {b c : Int} (hs : Sam X) (ht : Sam Y) (hb : 0 ≤ b) (hbc : b ≤ c) {i j : Nat} (hi : i ≤ 60) (hj : j ≤ 60) (hB : Bnd b i j) : wt X Y c (i + 1) (j + 1) ≤ wt X Y b (i + 1) (j + 1) := by
  obtain ⟨l, hl⟩ := wt_path hs ht hb _ i j rfl hi hj hB
  have key : ∀ {a d i j : Nat} {l : List (Nat × Nat)} {k : Int}, Pq X Y b a d l i j k → Pq X Y c a d l i j k := by
    intro a d i j l k h
    induction h with
    | one h => exact Pq.one _ _ ⟨by have := h.1; omega, by have := h.2; omega⟩
    | snoc hp hf h ih => exact Pq.snoc ih hf ⟨by have := h.1; omega, by have := h.2; omega⟩
  exact wt_le (key hl)
/-- the band 0 -/
theorem wt_zero {X Y : List Int} (hs : Sam X) (ht : Sam Y) (hl : X.length = Y.length) : ∀ i, i ≤ X.length → i ≤ 60 → wt X Y 0 i i = su sq ((df X Y).take i) := by
  intro i
  induction i with
  | zero => intro _ _; rw [wt_00]; simp [su]
  | succ i ih =>
    intro h1 h2
    have e := ih (by omega) (by omega)
    have hB : Bnd 0 i i := ⟨by omega, by omega⟩
    have off : ∀ p q, p ≠ q → p ≤ 61 → q ≤ 61 → wt X Y 0 p q = far := by
      intro p q hpq hp hq
      rcases p with _ | p
      · rcases q with _ | q
        · omega
        · rw [wt_0s]
      · rcases q with _ | q
        · rw [wt_s0]
        · rw [wt_out]
          rintro ⟨h1, h2⟩
          omega
    rw [wt_in _ _ _ _ _ hB, off i (i + 1) (by omega) (by omega) (by omega), off (i + 1) i (by omega) (by omega) (by omega)]
    have hle := wt_hi (b := 0) hs ht (by omega) i i (by omega) (by omega)
    have : mn3 (wt X Y 0 i i) far far = wt X Y 0 i i := by
      have a := mn3_le (wt X Y 0 i i) far far
      rcases mn3_or (wt X Y 0 i i) far far with h | h | h <;> omega
    rw [this, e, su_next sq (df X Y) i (by rw [df_len hl]; omega), df_at hl i (by omega)]
    unfold cst sq
    omega
/-- the first and the last pair -/
theorem wt_first {X Y : List Int} {b : Int} (hs : Sam X) (ht : Sam Y) (hb : 0 ≤ b) : ∀ (n i j : Nat), i + j = n → i ≤ 60 → j ≤ 60 → cst X Y 0 0 ≤ wt X Y b (i + 1) (j + 1) := by
  intro n
  induction n using Nat.strongRecOn with
  | _ n ih =>
    intro i j h hi hj
    have c0 := cst_in hs ht 0 0
    rcases Classical.em (Bnd b i j) with hB | hB
    · rcases Nat.eq_zero_or_pos (i + j) with h0 | h0
      · obtain rfl : i = 0 := by omega
        obtain rfl : j = 0 := by omega
        rw [wt_one hb]; omega
      · obtain ⟨f, B, e⟩ := bk_ok hs ht hb hi hj hB h0
        have lt : (bk X Y b i j).1 + (bk X Y b i j).2 < n ∧ (bk X Y b i j).1 ≤ 60 ∧ (bk X Y b i j).2 ≤ 60 := by
          rcases f with ⟨h1, h2⟩ | ⟨h1, h2⟩ | ⟨h1, h2⟩ <;> omega
        have := ih _ lt.1 _ _ rfl lt.2.1 lt.2.2
        have := cst_in hs ht i j
        omega
    · rw [wt_out _ _ _ _ _ hB]
      unfold far
      omega
theorem wt_ends {X Y : List Int} {b : Int} (hs : Sam X) (ht : Sam Y) (hb : 0 ≤ b) {i j : Nat} (hi : i ≤ 60) (hj : j ≤ 60) (hB : Bnd b i j) (h0 : 0 < i + j) : cst X Y 0 0 + cst X Y i j ≤ wt X Y b (i + 1) (j + 1) := by
  obtain ⟨f, B, e⟩ := bk_ok hs ht hb hi hj hB h0
  have lt : (bk X Y b i j).1 ≤ 60 ∧ (bk X Y b i j).2 ≤ 60 := by
    rcases f with ⟨h1, h2⟩ | ⟨h1, h2⟩ | ⟨h1, h2⟩ <;> omega
  have := wt_first hs ht hb _ _ _ rfl lt.1 lt.2
  omega
/-- the table depends on what stands ahead of the pair alone -/
theorem wt_cong {X Y P Q : List Int} {b : Int} {n m : Nat} (hc : ∀ i j, i < n → j < m → cst X Y i j = cst P Q i j) : ∀ (k i j : Nat), i + j = k → i ≤ n → j ≤ m → wt X Y b i j = wt P Q b i j := by
  intro k
  induction k using Nat.strongRecOn with
  | _ k ih =>
    intro i j h hi hj
    rcases i with _ | i
    · rcases j with _ | j
      · rw [wt_00, wt_00]
      · rw [wt_0s, wt_0s]
    · rcases j with _ | j
      · rw [wt_s0, wt_s0]
      · rcases Classical.em (Bnd b i j) with hB | hB
        · rw [wt_in _ _ _ _ _ hB, wt_in _ _ _ _ _ hB, ih (i + j) (by omega) i j rfl (by omega) (by omega), ih (i + (j + 1)) (by omega) i (j + 1) rfl (by omega) (by omega), ih (i + 1 + j) (by omega) (i + 1) j rfl (by omega) (by omega), hc i j (by omega) (by omega)]
        · rw [wt_out _ _ _ _ _ hB, wt_out _ _ _ _ _ hB]
theorem getD_app {X : List Int} {v : Int} {i : Nat} (h : i < X.length) : (X ++ [v]).getD i 0 = X.getD i 0 := by
  rw [List.getD_eq_getElem?_getD, List.getD_eq_getElem?_getD, List.getElem?_append_left h]
theorem getD_last {X : List Int} {v : Int} : (X ++ [v]).getD X.length 0 = v := by
  simp [List.getD_eq_getElem?_getD]
theorem wt_more {X Y : List Int} {b v : Int} (hb : Bnd b X.length Y.length) : wt (X ++ [v]) (Y ++ [v]) b (X.length + 1) (Y.length + 1) ≤ wt X Y b X.length Y.length := by
  rw [wt_in _ _ _ _ _ hb]
  have h1 := (mn3_le (wt (X ++ [v]) (Y ++ [v]) b X.length Y.length) (wt (X ++ [v]) (Y ++ [v]) b X.length (Y.length + 1)) (wt (X ++ [v]) (Y ++ [v]) b (X.length + 1) Y.length)).1
  have h2 : cst (X ++ [v]) (Y ++ [v]) X.length Y.length = 0 := by unfold cst; rw [getD_last, getD_last]; simp
  have h3 : wt (X ++ [v]) (Y ++ [v]) b X.length Y.length = wt X Y b X.length Y.length := by
    refine wt_cong (n := X.length) (m := Y.length) (fun i j hi hj => ?_) _ _ _ rfl (by omega) (by omega)
    unfold cst
    rw [getD_app hi, getD_app hj]
  omega
/-- reversed windows of one length -/
theorem rev_at {X : List Int} {i : Nat} (h : i < X.length) : X.reverse.getD (X.length - 1 - i) 0 = X.getD i 0 := by
  rw [List.getD_eq_getElem?_getD, List.getD_eq_getElem?_getD, List.getElem?_reverse (by omega)]
  congr 2
  omega
theorem pq_rev {X Y : List Int} {b : Int} {n : Nat} (hx : X.length = n) (hy : Y.length = n) {a c i j : Nat} {l : List (Nat × Nat)} {k : Int} (h : Pq X Y b a c l i j k) : i < n → j < n → ∃ l', Pq X.reverse Y.reverse b (n - 1 - i) (n - 1 - j) l' (n - 1 - a) (n - 1 - c) k := by
  have ce : ∀ i j, i < n → j < n → cst X.reverse Y.reverse (n - 1 - i) (n - 1 - j) = cst X Y i j := by
    intro i j hi hj
    unfold cst
    have e1 : X.reverse.getD (n - 1 - i) 0 = X.getD i 0 := by rw [← hx]; exact rev_at (by omega)
    have e2 : Y.reverse.getD (n - 1 - j) 0 = Y.getD j 0 := by rw [← hy]; exact rev_at (by omega)
    rw [e1, e2]
  have be : ∀ i j, i < n → j < n → Bnd b i j → Bnd b (n - 1 - i) (n - 1 - j) := by
    rintro i j hi hj ⟨h1, h2⟩
    constructor <;> omega
  induction h with
  | one h =>
    intro hi hj
    refine ⟨[(n - 1 - a, n - 1 - c)], ?_⟩
    rw [← ce a c hi hj]
    exact Pq.one _ _ (be a c hi hj h)
  | @snoc i j p q l k hp hf h ih =>
    intro hi hj
    have lt : i < n ∧ j < n := by rcases hf with ⟨h1, h2⟩ | ⟨h1, h2⟩ | ⟨h1, h2⟩ <;> omega
    obtain ⟨l', hl⟩ := ih lt.1 lt.2
    refine ⟨(n - 1 - p, n - 1 - q) :: l', ?_⟩
    rw [Int.add_comm, ← ce p q hi hj]
    refine Pq.cons ?_ (be p q hi hj h) hl
    unfold Fol at *
    omega
theorem wt_rev {X Y : List Int} {b : Int} {n : Nat} (hs : Sam X) (ht : Sam Y) (hb : 0 ≤ b) (hx : X.length = n) (hy : Y.length = n) (h0 : 0 < n) (hn : n ≤ 60) : wt X.reverse Y.reverse b n n = wt X Y b n n := by
  obtain ⟨m, rfl⟩ : ∃ m, n = m + 1 := ⟨n - 1, by omega⟩
  have hB : Bnd b m m := ⟨by omega, by omega⟩
  have le : ∀ {X Y : List Int}, Sam X → Sam Y → X.length = m + 1 → Y.length = m + 1 → wt X.reverse Y.reverse b (m + 1) (m + 1) ≤ wt X Y b (m + 1) (m + 1) := by
    intro X Y hs ht hx hy
    obtain ⟨l, hl⟩ := wt_path hs ht hb _ m m rfl (by omega) (by omega) hB
    obtain ⟨l', hl'⟩ := pq_rev hx hy hl (by omega) (by omega)
    simp only [Nat.add_sub_cancel, Nat.sub_self, Nat.sub_zero] at hl'
    exact wt_le hl'
  have hr : ∀ {X : List Int}, Sam X → Sam X.reverse := fun h x hx => h x (List.mem_reverse.1 hx)
  have h1 := le hs ht hx hy
  have h2 := le (hr hs) (hr ht) (by simpa using hx) (by simpa using hy)
  rw [List.reverse_reverse, List.reverse_reverse] at h2
  omega
end Go.Proofs.YtpbnabibnkohdaaGreatDoor.Wi
namespace Go.Proofs.YtpbnabibnkohdaaGreatDoor.Wi
set_option linter.unusedVariables false
def ab (x : Int) : Int := if x < 0 then -x else x
theorem ab_nn (x : Int) : 0 ≤ ab x := by unfold ab; split <;> omega
theorem ab_tri (a b c : Int) : ab (a - c) ≤ ab (a - b) + ab (b - c) := by unfold ab; split <;> split <;> split <;> omega
theorem ab_sym (a b : Int) : ab (a - b) = ab (b - a) := by unfold ab; split <;> split <;> omega
theorem ab_self (a : Int) : ab (a - a) = 0 := by unfold ab; split <;> omega
theorem ab_in {x B : Int} (h1 : -B ≤ x) (h2 : x ≤ B) : 0 ≤ ab x ∧ ab x ≤ B := by unfold ab; split <;> omega
/-- the least costs of aligning beginnings -/
def et (X Y : List Int) (g : Int) : Nat → Nat → Int
  | 0, 0 => 0
  | 0, j + 1 => et X Y g 0 j + ab (Y.getD j 0 - g)
  | i + 1, 0 => et X Y g i 0 + ab (X.getD i 0 - g)
  | i + 1, j + 1 => mn3 (et X Y g i j + ab (X.getD i 0 - Y.getD j 0)) (et X Y g i (j + 1) + ab (X.getD i 0 - g)) (et X Y g (i + 1) j + ab (Y.getD j 0 - g))
termination_by i j => (i, j)
theorem et_00 (X Y : List Int) (g : Int) : et X Y g 0 0 = 0 := by rw [et]
theorem et_0s (X Y : List Int) (g : Int) (j : Nat) : et X Y g 0 (j + 1) = et X Y g 0 j + ab (Y.getD j 0 - g) := by rw [et]
theorem et_s0 (X Y : List Int) (g : Int) (i : Nat) : et X Y g (i + 1) 0 = et X Y g i 0 + ab (X.getD i 0 - g) := by rw [et]
theorem et_ss (X Y : List Int) (g : Int) (i j : Nat) : et X Y g (i + 1) (j + 1) = mn3 (et X Y g i j + ab (X.getD i 0 - Y.getD j 0)) (et X Y g i (j + 1) + ab (X.getD i 0 - g)) (et X Y g (i + 1) j + ab (Y.getD j 0 - g)) := by rw [et]
theorem et_up (X Y : List Int) (g : Int) (i j : Nat) : et X Y g (i + 1) j ≤ et X Y g i j + ab (X.getD i 0 - g) := by
  rcases j with _ | j
  · rw [et_s0]; omega
  · rw [et_ss]; exact (mn3_le _ _ _).2.1
theorem et_left (X Y : List Int) (g : Int) (i j : Nat) : et X Y g i (j + 1) ≤ et X Y g i j + ab (Y.getD j 0 - g) := by
  rcases i with _ | i
  · rw [et_0s]; omega
  · rw [et_ss]; exact (mn3_le _ _ _).2.2
theorem et_diag (X Y : List Int) (g : Int) (i j : Nat) : et X Y g (i + 1) (j + 1) ≤ et X Y g i j + ab (X.getD i 0 - Y.getD j 0) := by
  rw [et_ss]; exact (mn3_le _ _ _).1
/-- the way in which the least cost is attained -/
theorem et_or (X Y : List Int) (g : Int) (i j : Nat) (h : 0 < i + j) :
    (∃ p q, i = p + 1 ∧ j = q + 1 ∧ et X Y g i j = et X Y g p q + ab (X.getD p 0 - Y.getD q 0)) ∨ (∃ p, i = p + 1 ∧ et X Y g i j = et X Y g p j + ab (X.getD p 0 - g)) ∨ (∃ q, j = q + 1 ∧ et X Y g i j = et X Y g i q + ab (Y.getD q 0 - g)) := by
  rcases i with _ | i
  · rcases j with _ | j
    · omega
    · exact .inr (.inr ⟨j, rfl, et_0s _ _ _ _⟩)
  · rcases j with _ | j
    · exact .inr (.inl ⟨i, rfl, et_s0 _ _ _ _⟩)
    · rw [et_ss]
      rcases mn3_or (et X Y g i j + ab (X.getD i 0 - Y.getD j 0)) (et X Y g i (j + 1) + ab (X.getD i 0 - g)) (et X Y g (i + 1) j + ab (Y.getD j 0 - g)) with h | h | h
      · exact .inl ⟨i, j, rfl, rfl, h⟩
      · exact .inr (.inl ⟨i, rfl, h⟩)
      · exact .inr (.inr ⟨j, rfl, h⟩)
theorem et_nn (X Y : List Int) (g : Int) : ∀ (n i j : Nat), i + j = n → 0 ≤ et X Y g i j := by
  intro n
  induction n using Nat.strongRecOn with
  | _ n ih =>
    intro i j h
    rcases Nat.eq_zero_or_pos (i + j) with h0 | h0
    · obtain rfl : i = 0 := by omega
      obtain rfl : j = 0 := by omega
      rw [et_00]; omega
    · rcases et_or X Y g i j h0 with ⟨p, q, rfl, rfl, e⟩ | ⟨p, rfl, e⟩ | ⟨q, rfl, e⟩
      · have := ih (p + q) (by omega) p q rfl; have := ab_nn (X.getD p 0 - Y.getD q 0); omega
      · have := ih (p + j) (by omega) p j rfl; have := ab_nn (X.getD p 0 - g); omega
      · have := ih (i + q) (by omega) i q rfl; have := ab_nn (Y.getD q 0 - g); omega
theorem et_hi {X Y : List Int} {g : Int} (hs : Sam X) (ht : Sam Y) (g0 : -1000 ≤ g) (g1 : g ≤ 1000) : ∀ (n i j : Nat), i + j = n → et X Y g i j ≤ 2000 * (n : Int) := by
  intro n
  induction n using Nat.strongRecOn with
  | _ n ih =>
    intro i j h
    rcases i with _ | i
    · rcases j with _ | j
      · rw [et_00]; omega
      · have := ih j (by omega) 0 j (by omega)
        have a := ht.at j
        have := ab_in (B := 2000) (x := Y.getD j 0 - g) (by omega) (by omega)
        rw [et_0s]; omega
    · have := ih (i + j) (by omega) i j rfl
      have a := hs.at i
      have := ab_in (B := 2000) (x := X.getD i 0 - g) (by omega) (by omega)
      have := et_up X Y g i j
      omega
theorem et_sym (X Y : List Int) (g : Int) : ∀ (n i j : Nat), i + j = n → et X Y g i j = et Y X g j i := by
  intro n
  induction n using Nat.strongRecOn with
  | _ n ih =>
    intro i j h
    rcases i with _ | i
    · rcases j with _ | j
      · rw [et_00, et_00]
      · rw [et_0s, et_s0, ih j (by omega) 0 j (by omega)]
    · rcases j with _ | j
      · rw [et_s0, et_0s, ih i (by omega) i 0 (by omega)]
      · rw [et_ss, et_ss, ih (i + j) (by omega) i j rfl, ih (i + (j + 1)) (by omega) i (j + 1) rfl, ih (i + 1 + j) (by omega) (i + 1) j rfl, mn3_swap, ab_sym]
theorem et_tri (X Y Z : List Int) (g : Int) : ∀ (n i j k : Nat), i + j + k = n → et X Z g i k ≤ et X Y g i j + et Y Z g j k := by
  intro n
  induction n using Nat.strongRecOn with
  | _ n ih =>
    intro i j k h
    rcases Nat.eq_zero_or_pos (i + j) with h1 | h1
    · obtain rfl : i = 0 := by omega
      obtain rfl : j = 0 := by omega
      rw [et_00]
      have : ∀ k, et X Z g 0 k = et Y Z g 0 k := by
        intro k
        induction k with
        | zero => rw [et_00, et_00]
        | succ k ih => rw [et_0s, et_0s, ih]
      rw [this]; omega
    · rcases Nat.eq_zero_or_pos (j + k) with h2 | h2
      · obtain rfl : k = 0 := by omega
        obtain rfl : j = 0 := by omega
        rw [et_00 Y]
        have : ∀ i, et X Z g i 0 = et X Y g i 0 := by
          intro k
          induction k with
          | zero => rw [et_00, et_00]
          | succ k ih => rw [et_s0, et_s0, ih]
        rw [this]; omega
      · rcases et_or X Y g i j h1 with ⟨p, q, rfl, rfl, e⟩ | ⟨p, rfl, e⟩ | ⟨q, rfl, e⟩
        · rcases et_or Y Z g (q + 1) k h2 with ⟨q', r, eq, rfl, f⟩ | ⟨q', eq, f⟩ | ⟨r, rfl, f⟩
          · obtain rfl : q = q' := by omega
            have a := ih (p + q + r) (by omega) p q r rfl
            have b := et_diag X Z g p r
            have c := ab_tri (X.getD p 0) (Y.getD q 0) (Z.getD r 0)
            omega
          · obtain rfl : q = q' := by omega
            have a := ih (p + q + k) (by omega) p q k rfl
            have b := et_up X Z g p k
            have c := ab_tri (X.getD p 0) (Y.getD q 0) g
            omega
          · have a := ih (p + 1 + (q + 1) + r) (by omega) (p + 1) (q + 1) r rfl
            have b := et_left X Z g (p + 1) r
            omega
        · have a := ih (p + j + k) (by omega) p j k rfl
          have b := et_up X Z g p k
          omega
        · rcases et_or Y Z g (q + 1) k h2 with ⟨q', r, eq, rfl, f⟩ | ⟨q', eq, f⟩ | ⟨r, rfl, f⟩
          · obtain rfl : q = q' := by omega
            have a := ih (i + q + r) (by omega) i q r rfl
            have b := et_left X Z g i r
            have c := ab_tri (Z.getD r 0) (Y.getD q 0) g
            rw [ab_sym (Z.getD r 0) (Y.getD q 0)] at c
            omega
          · obtain rfl : q = q' := by omega
            have a := ih (i + q + k) (by omega) i q k rfl
            have := ab_nn (Y.getD q 0 - g)
            omega
          · have a := ih (i + (q + 1) + r) (by omega) i (q + 1) r rfl
            have b := et_left X Z g i r
            omega
theorem et_self (X : List Int) (g : Int) : ∀ i, et X X g i i ≤ 0 := by
  intro i
  induction i with
  | zero => rw [et_00]; omega
  | succ i ih => have := et_diag X X g i i; rw [ab_self] at this; omega
theorem et_zero (X : List Int) (g : Int) (i : Nat) : et X X g i i = 0 := by
  have := et_self X g i
  have := et_nn X X g _ i i rfl
  omega
/-- the table depends on what stands ahead alone, and on differences -/
theorem et_cong {X Y P Q : List Int} {g f : Int} {n m : Nat} (h1 : ∀ i, i < n → X.getD i 0 - g = P.getD i 0 - f) (h2 : ∀ j, j < m → Y.getD j 0 - g = Q.getD j 0 - f) : ∀ (k i j : Nat), i + j = k → i ≤ n → j ≤ m → et X Y g i j = et P Q f i j := by
  intro k
  induction k using Nat.strongRecOn with
  | _ k ih =>
    intro i j h hi hj
    rcases i with _ | i
    · rcases j with _ | j
      · rw [et_00, et_00]
      · rw [et_0s, et_0s, ih j (by omega) 0 j (by omega) (by omega) (by omega), h2 j (by omega)]
    · rcases j with _ | j
      · rw [et_s0, et_s0, ih i (by omega) i 0 (by omega) (by omega) (by omega), h1 i (by omega)]
      · have e : X.getD i 0 - Y.getD j 0 = P.getD i 0 - Q.getD j 0 := by have := h1 i (by omega); have := h2 j (by omega); omega
        rw [et_ss, et_ss, ih (i + j) (by omega) i j rfl (by omega) (by omega), ih (i + (j + 1)) (by omega) i (j + 1) rfl (by omega) (by omega), ih (i + 1 + j) (by omega) (i + 1) j rfl (by omega) (by omega), h1 i (by omega), h2 j (by omega), e]
/-- an alignment of the beginnings, and its cost: 1 both, 2 left, 3 right -/
inductive Al (X Y : List Int) (g : Int) : List Int → Nat → Nat → Int → Prop
  | nil : Al X Y g [] 0 0 0
  | both {l i j k} (h : Al X Y g l i j k) : Al X Y g (l ++ [1]) (i + 1) (j + 1) (k + ab (X.getD i 0 - Y.getD j 0))
  | left {l i j k} (h : Al X Y g l i j k) : Al X Y g (l ++ [2]) (i + 1) j (k + ab (X.getD i 0 - g))
  | right {l i j k} (h : Al X Y g l i j k) : Al X Y g (l ++ [3]) i (j + 1) (k + ab (Y.getD j 0 - g))
theorem al_le {X Y : List Int} {g : Int} {l : List Int} {i j : Nat} {k : Int} (h : Al X Y g l i j k) : et X Y g i j ≤ k := by
  induction h with
  | nil => rw [et_00]; omega
  | both h ih => rename_i l i j k; have := et_diag X Y g i j; omega
  | left h ih => rename_i l i j k; have := et_up X Y g i j; omega
  | right h ih => rename_i l i j k; have := et_left X Y g i j; omega
theorem al_path (X Y : List Int) (g : Int) : ∀ (n i j : Nat), i + j = n → ∃ l, Al X Y g l i j (et X Y g i j) := by
  intro n
  induction n using Nat.strongRecOn with
  | _ n ih =>
    intro i j h
    rcases Nat.eq_zero_or_pos (i + j) with h0 | h0
    · obtain rfl : i = 0 := by omega
      obtain rfl : j = 0 := by omega
      exact ⟨[], by rw [et_00]; exact Al.nil⟩
    · rcases et_or X Y g i j h0 with ⟨p, q, rfl, rfl, e⟩ | ⟨p, rfl, e⟩ | ⟨q, rfl, e⟩
      · obtain ⟨l, hl⟩ := ih (p + q) (by omega) p q rfl
        exact ⟨_, by rw [e]; exact Al.both hl⟩
      · obtain ⟨l, hl⟩ := ih (p + j) (by omega) p j rfl
        exact ⟨_, by rw [e]; exact Al.left hl⟩
      · obtain ⟨l, hl⟩ := ih (i + q) (by omega) i q rfl
        exact ⟨_, by rw [e]; exact Al.right hl⟩
/-- reversed windows -/
def ft (X Y : List Int) (g : Int) (n m i j : Nat) : Int := et X.reverse Y.reverse g (n - i) (m - j)
theorem et_app_left {X Y : List Int} {g : Int} {n m i j : Nat} {l : List Int} {k : Int} (h : Al X Y g l i j k) : i ≤ n → j ≤ m → X.length = n → Y.length = m → ∀ p q, p = n - i → q = m - j → et X.reverse Y.reverse g n m ≤ et X.reverse Y.reverse g p q + k := by
  have rx : ∀ i, X.length = n → i < n → X.reverse.getD (n - 1 - i) 0 = X.getD i 0 := fun i hx hi => by rw [← hx]; exact rev_at (by omega)
  have ry : ∀ i, Y.length = m → i < m → Y.reverse.getD (m - 1 - i) 0 = Y.getD i 0 := fun i hx hi => by rw [← hx]; exact rev_at (by omega)
  induction h with
  | nil =>
    intro hi hj hx hy p q hp hq
    rw [hp, hq]
    simp
  | @both l i j k h ih =>
    intro hi hj hx hy p q hp hq
    have a := ih (by omega) (by omega) hx hy (p + 1) (q + 1) (by omega) (by omega)
    have b := et_diag X.reverse Y.reverse g p q
    rw [show p = n - 1 - i by omega, show q = m - 1 - j by omega, rx i hx (by omega), ry j hy (by omega)] at b
    rw [show p = n - 1 - i by omega, show q = m - 1 - j by omega] at a ⊢
    omega
  | @left l i j k h ih =>
    intro hi hj hx hy p q hp hq
    have a := ih (by omega) (by omega) hx hy (p + 1) q (by omega) (by omega)
    have b := et_up X.reverse Y.reverse g p q
    rw [show p = n - 1 - i by omega, rx i hx (by omega)] at b
    rw [show p = n - 1 - i by omega] at a ⊢
    omega
  | @right l i j k h ih =>
    intro hi hj hx hy p q hp hq
    have a := ih (by omega) (by omega) hx hy p (q + 1) (by omega) (by omega)
    have b := et_left X.reverse Y.reverse g p q
    rw [show q = m - 1 - j by omega, ry j hy (by omega)] at b
    rw [show q = m - 1 - j by omega] at a ⊢
    omega
theorem et_rev (X Y : List Int) (g : Int) : et X.reverse Y.reverse g X.length Y.length = et X Y g X.length Y.length := by
  have le : ∀ X Y : List Int, et X.reverse Y.reverse g X.length Y.length ≤ et X Y g X.length Y.length := by
    intro X Y
    obtain ⟨l, hl⟩ := al_path X Y g _ X.length Y.length rfl
    have := et_app_left hl (Nat.le_refl _) (Nat.le_refl _) rfl rfl 0 0 (by omega) (by omega)
    rw [et_00] at this
    omega
  have h1 := le X Y
  have h2 := le X.reverse Y.reverse
  rw [List.reverse_reverse, List.reverse_reverse, List.length_reverse, List.length_reverse] at h2
  omega
/-- a sample that equals the gap, put in somewhere -/
theorem et_put (X : List Int) (g : Int) (k : Nat) (hk : k ≤ X.length) : et X (X.take k ++ [g] ++ X.drop k) g X.length (X.length + 1) = 0 := by
  have nn := et_nn X (X.take k ++ [g] ++ X.drop k) g _ X.length (X.length + 1) rfl
  have g1 : ∀ i, i < k → (X.take k ++ [g] ++ X.drop k).getD i 0 = X.getD i 0 := fun i hi => by
    rw [List.getD_eq_getElem?_getD, List.getD_eq_getElem?_getD, List.append_assoc, List.getElem?_append_left (by simp; omega), List.getElem?_take_of_lt hi]
  have g2 : (X.take k ++ [g] ++ X.drop k).getD k 0 = g := by
    rw [List.getD_eq_getElem?_getD, List.append_assoc, List.getElem?_append_right (by simp; omega)]
    simp [Nat.min_eq_left hk]
  have g3 : ∀ i, k ≤ i → (X.take k ++ [g] ++ X.drop k).getD (i + 1) 0 = X.getD i 0 := fun i hi => by
    rw [List.getD_eq_getElem?_getD, List.getD_eq_getElem?_getD, List.getElem?_append_right (by simp; omega), List.getElem?_drop]
    congr 2
    simp
    omega
  have a : ∀ i, i ≤ k → et X (X.take k ++ [g] ++ X.drop k) g i i ≤ 0 := by
    intro i
    induction i with
    | zero => intro _; rw [et_00]; omega
    | succ i ih =>
      intro hi
      have := ih (by omega)
      have b := et_diag X (X.take k ++ [g] ++ X.drop k) g i i
      rw [g1 i (by omega), ab_self] at b
      omega
  have b := et_left X (X.take k ++ [g] ++ X.drop k) g k k
  rw [g2, ab_self] at b
  have c : ∀ i, et X (X.take k ++ [g] ++ X.drop k) g (k + i) (k + i + 1) ≤ 0 := by
    intro i
    induction i with
    | zero => have := a k (Nat.le_refl _); simpa using (by omega : et X (X.take k ++ [g] ++ X.drop k) g k (k + 1) ≤ 0)
    | succ i ih =>
      have d := et_diag X (X.take k ++ [g] ++ X.drop k) g (k + i) (k + i + 1)
      rw [g3 (k + i) (by omega), ab_self] at d
      have : et X (X.take k ++ [g] ++ X.drop k) g (k + i + 1) (k + i + 1 + 1) ≤ 0 := by omega
      exact this
  have d := c (X.length - k)
  rw [show k + (X.length - k) = X.length by omega] at d
  omega
/-- the difference of the sums of what is above the gap -/
def ov (X : List Int) (g : Int) (i : Nat) : Int := su ix (X.take i) - (i : Int) * g
theorem ov_next (X : List Int) (g : Int) (i : Nat) (h : i < X.length) : ov X g (i + 1) = ov X g i + (X.getD i 0 - g) := by
  unfold ov
  rw [su_next ix X i h]
  unfold ix
  rw [show ((i + 1 : Nat) : Int) = (i : Int) + 1 by omega]
  grind
theorem et_sum (X Y : List Int) (g : Int) : ∀ (n i j : Nat), i + j = n → i ≤ X.length → j ≤ Y.length → ab (ov X g i - ov Y g j) ≤ et X Y g i j := by
  intro n
  induction n using Nat.strongRecOn with
  | _ n ih =>
    intro i j h hi hj
    rcases Nat.eq_zero_or_pos (i + j) with h0 | h0
    · obtain rfl : i = 0 := by omega
      obtain rfl : j = 0 := by omega
      rw [et_00]; simp [ov, su, ab]
    · rcases et_or X Y g i j h0 with ⟨p, q, rfl, rfl, e⟩ | ⟨p, rfl, e⟩ | ⟨q, rfl, e⟩
      · have a := ih (p + q) (by omega) p q rfl (by omega) (by omega)
        have b := ov_next X g p (by omega)
        have c := ov_next Y g q (by omega)
        rw [e, b, c]
        unfold ab at *
        revert a
        split <;> split <;> split <;> omega
      · have a := ih (p + j) (by omega) p j rfl (by omega) (by omega)
        have b := ov_next X g p (by omega)
        rw [e, b]
        unfold ab at *
        revert a
        split <;> split <;> split <;> omega
      · have a := ih (i + q) (by omega) i q rfl (by omega) (by omega)
        have c := ov_next Y g q (by omega)
        rw [e, c]
        unfold ab at *
        revert a
        split <;> split <;> split <;> omega
def ax (x : Int) : Int := ab x
theorem et_dia (X Y : List Int) (g : Int) (hl : X.length = Y.length) : ∀ i, i ≤ X.length → et X Y g i i ≤ su ax ((df X Y).take i) := by
  intro i
  induction i with
  | zero => intro _; rw [et_00]; simp [su]
  | succ i ih =>
    intro hi
    have a := ih (by omega)
    have b := et_diag X Y g i i
    rw [su_next ax (df X Y) i (by rw [df_len hl]; omega), df_at hl i (by omega)]
    unfold ax at *
    omega
end Go.Proofs.YtpbnabibnkohdaaGreatDoor.Wi
namespace Go.Proofs.YtpbnabibnkohdaaGreatDoor.Ed
open Go.ChangeShapes Go.WideShapes Go.RowKit Wo Sr Wi
set_option linter.unusedVariables false
theorem abs_ok (n : Int) (h0 : -4611686018427387904 ≤ n) (h1 : n ≤ 4611686018427387904) (w : World) : Calls Tryz.prog 47 #[.int .i64 n] w fun e w' => e = .returned (.int .i64 (ab n)) ∧ w = w' := by
  unfold ab
  rcases Int.lt_trichotomy n 0 with h | rfl | h
  · rw [if_pos h]
    go_enter Tryz.func47, Tryz.ntmps47
    go_wp2
    go_ret
    first | exact ⟨rfl, rfl⟩ | exact ⟨ret_int (by omega), rfl⟩
  · go_enter Tryz.func47, Tryz.ntmps47
    go_wp2
    go_ret
    first | exact ⟨rfl, rfl⟩ | exact ⟨ret_int (by omega), rfl⟩
  · rw [if_neg (by omega)]
    go_enter Tryz.func47, Tryz.ntmps47
    go_wp2
    go_ret
    first | exact ⟨rfl, rfl⟩ | exact ⟨ret_int (by omega), rfl⟩
set_option maxHeartbeats 4000000 in
theorem windows_ok (A A' : Option Addr) (c c' n m : Nat) (L M : List Int) (b : Int) (n1 : 2 ≤ n) (n2 : n ≤ 32) (m1 : 2 ≤ m) (m2 : m ≤ 32) (b1 : (n : Int) - (m : Int) ≤ b) (b2 : (m : Int) - (n : Int) ≤ b) (hs : Sam L) (ht : Sam M) (w : World) (h1 : Zi w A n L) (h2 : Zi w A' m M) :
    Calls Tryz.prog 52 #[.slice A n c, .slice A' m c', .int .i64 b] w fun e w' => e = .returned (.int .i64 0) ∧ Bel w w' := by
  have H1 := Lib.hid h1
  have H2 := Lib.hid h2
  have HS := Lib.hid hs
  have HT := Lib.hid ht
  have i1 : 2 ≤ (n : Int) := by omega
  have i2 : (n : Int) ≤ 32 := by omega
  have i3 : 2 ≤ (m : Int) := by omega
  have i4 : (m : Int) ≤ 32 := by omega
  clear h1 h2 hs ht
  go_enter Tryz.func52, Tryz.ntmps52
  go_wp2_with fail
  go_at_call 49
  refine (length_ok (n : Int) i1 i2 _).mono ?_
  rintro e v ⟨rfl, rfl⟩
  go_wp2_with fail
  go_at_call 49
  refine (length_ok (m : Int) i3 i4 _).mono ?_
  rintro e v ⟨rfl, rfl⟩
  go_wp2_with fail
  go_at_call 50
  refine (samples_ok A c n L (by omega) HS.out _ H1.out).mono ?_
  rintro e w1 ⟨rfl, hb1⟩
  have HB1 := Lib.hid hb1
  clear hb1
  go_wp2_with (go_at_call 50; refine (samples_ok A' c' m M (by omega) HT.out _ (H2.out.bel HB1.out)).mono ?_; rintro e w2 ⟨rfl, hb2⟩)
  go_ret
  exact ⟨rfl, HB1.out.tr hb2⟩
theorem check_ok (A A' : Option Addr) (c c' n m : Nat) (L M : List Int) (g : Int) (n1 : 2 ≤ n) (n2 : n ≤ 32) (m1 : 2 ≤ m) (m2 : m ≤ 32) (g0 : -1000 ≤ g) (g1 : g ≤ 1000) (hs : Sam L) (ht : Sam M) (w : World) (h1 : Zi w A n L) (h2 : Zi w A' m M) :
    Calls Tryz.prog 105 #[.slice A n c, .slice A' m c', .int .i64 g] w fun e w' => e = .returned (.int .i64 0) ∧ Bel w w' := by
  have HW := Lib.hid (windows_ok A A' c c' n m L M 32 n1 n2 m1 m2 (by omega) (by omega) hs ht w h1 h2)
  clear h1 h2 hs ht
  go_enter Tryz.func105, Tryz.ntmps105
  go_wp2_with fail
  go_at_call 69
  refine (sample_ok g g0 g1 _).mono ?_
  rintro e v ⟨rfl, rfl⟩
  go_wp2_with (go_at_call 52; refine HW.out.mono ?_; rintro e w2 ⟨rfl, hb2⟩)
  go_ret
  exact ⟨rfl, hb2⟩
theorem own_take {w : World} {base n m c g : Nat} {M : List Int} (h : w.ownsRow base 3 1 (.slice (some ⟨g, 0, none⟩) n c) n (zs M)) (hM : M.length = n) (hm : m ≤ n) : w.ownsRow base 3 1 (.slice (some ⟨g, 0, none⟩) m c) m (zs (M.take m)) := by
  refine ⟨by rw [zs_len, List.length_take]; omega, ?_⟩
  rcases h.2 with ⟨h0, _⟩ | ⟨g', cap, cur, e1, hb, hg, h1, h2, h3, h4⟩
  · cases h0
  · injection e1 with e1 e2 e3
    injection e1 with e1
    cases e1
    subst e3
    refine .inr ⟨g, c, cur, rfl, hb, hg, by omega, h2, h3, ?_⟩
    have e : (cur.toList.take (n * 1)).take (m * 1) = cur.toList.take (m * 1) := by rw [List.take_take]; congr 1; omega
    rw [← e, h4]
    simp [zs, List.map_take]
/-- two windows, the second not longer, and a gap -/
def SomeW (g : Nat) (w : World) (e : Ending) (w' : World) : Prop := ∃ (a b c d n m : Nat) (L M : List Int) (k : Int), e = .returned (.tuple #[.slice (some ⟨a, 0, none⟩) n b, .slice (some ⟨c, 0, none⟩) m d, .int .i64 k]) ∧ 2 ≤ n ∧ n ≤ 32 ∧ 2 ≤ m ∧ m ≤ n ∧ a < c ∧ n ≤ b ∧ m ≤ d ∧ -1000 ≤ k ∧ k ≤ 1000 ∧
  w'.ownsRow w.heap.size 3 1 (.slice (some ⟨a, 0, none⟩) n b) n (zs L) ∧ w'.ownsRow w.heap.size 3 1 (.slice (some ⟨c, 0, none⟩) m d) m (zs M) ∧ L.length = n ∧ M.length = m ∧ Sam L ∧ Sam M ∧ Ok w' g ∧ Ch g w w'
theorem own_cap {w : World} {base h n c : Nat} {xs : List Value} {e : TypeId} (hown : w.ownsRow base e 1 (.slice (some ⟨h, 0, none⟩) n c) n xs) : n ≤ c := by
  rcases hown.2 with ⟨h0, _⟩ | ⟨g, cap, cur, e1, hb, hg, h1, _⟩
  · cases h0
  · injection e1 with e1 e2 e3
    subst e3
    exact h1
end Go.Proofs.YtpbnabibnkohdaaGreatDoor.Ed
namespace Go.Proofs.YtpbnabibnkohdaaGreatDoor.Ms
open Go.ChangeShapes Go.WideShapes Go.RowKit Wo Sr Wi Ra
set_option linter.unusedVariables false
theorem kp2 {W : World} {a i : Nat} {x u v : Value} (h : W.cell? ⟨a, i, none⟩ = some x) : ((W.setCell ⟨a + 1, 0, none⟩ u).setCell ⟨a + 1, 1, none⟩ v).cell? ⟨a, i, none⟩ = some x := by
  have o : ∀ (V : World) (k : Nat) (y : Value), V.cell? ⟨a, i, none⟩ = some x → (V.setCell ⟨a + 1, k, none⟩ y).cell? ⟨a, i, none⟩ = some x := fun V k y hV => (World.cell?_setCell_other _ _ _ _ (fun e => by have := congrArg Addr.block e; simp at this)).trans hV
  exact o _ _ _ (o _ _ _ h)
theorem kp3 {W : World} {a : Nat} {x y z u v : Value} (h : W.cell? ⟨a, 0, none⟩ = some x ∧ W.cell? ⟨a, 1, none⟩ = some y ∧ W.cell? ⟨a, 2, none⟩ = some z) :
    ((W.setCell ⟨a + 1, 0, none⟩ u).setCell ⟨a + 1, 1, none⟩ v).cell? ⟨a, 0, none⟩ = some x ∧ ((W.setCell ⟨a + 1, 0, none⟩ u).setCell ⟨a + 1, 1, none⟩ v).cell? ⟨a, 1, none⟩ = some y ∧ ((W.setCell ⟨a + 1, 0, none⟩ u).setCell ⟨a + 1, 1, none⟩ v).cell? ⟨a, 2, none⟩ = some z := ⟨kp2 h.1, kp2 h.2.1, kp2 h.2.2⟩
set_option maxHeartbeats 2000000 in
set_option maxRecDepth 100000 in
theorem clos1 (A A' : Option Addr) (c c' n m : Nat) (L N : List Int) (v : Int) (w : World) (h1 : Zi w A n L) (h2 : Zi w A' m N)
    (hD : ∀ W, Bel w W → Calls Tryz.prog 30 #[.slice A n c, .slice A' m c'] W fun e w' => e = .returned (.tuple #[.int .i64 v, .int .i64 0]) ∧ Bel W w') (v0 : 0 ≤ v) (v1 : v ≤ 2305843009213693952) :
    Calls Tryz.prog 70 #[.slice A n c, .slice A' m c'] w fun e w' => e = .returned (.tuple #[.agg #[.int .i64 v, .int .i64 1], .int .i64 0]) ∧ Bel w w' := by
  have DD := Lib.hid hD
  have IN : Hid (∀ W, _) := fun W => integer_ok v v0 v1 W
  clear h1 h2 hD v0 v1
  go_enter Tryz.func70, Tryz.ntmps70
  go_wp2_with fail
  go_at_call 30
  refine (DD.out _ (Bel.rf.al _)).mono ?_
  rintro e w1 ⟨rfl, hb1⟩
  have HB1 : Hid (Bel w w1) := (Bel.rf.al _).tr hb1
  have HK1 : Hid (Bk w1 w.heap.size 42 #[.int .i64 0, .int .i64 0]) := (Bk.nw _ _ _).bel hb1
  clear hb1
  go_wp2_with fail
  go_at_call 71
  refine (IN.out _).mono ?_
  rintro e w2 ⟨rfl, hb2⟩
  have K4 := HK1.out.bel hb2
  have l0 : w2.cell? ⟨w.heap.size, 0, none⟩ = some (.int .i64 0) := K4.cell 0
  have l1 : w2.cell? ⟨w.heap.size, 1, none⟩ = some (.int .i64 0) := K4.cell 1
  have j0 := K4.fr 0
  have j1 := K4.fr 1
  have HF : Hid (Bel w w2) := HB1.out.tr hb2
  clear hb2 K4
  go_wp2
  refine bodyPost_ret (v := .tuple #[.agg #[.int .i64 v, .int .i64 1], .int .i64 0]) (by simp [results, Tryz.results70, go_sem, l0, l1]) rfl ⟨rfl, ?_⟩
  exact (HF.out.st (Nat.le_refl _) _).st (Nat.le_refl _) _
set_option maxHeartbeats 2000000 in
set_option maxRecDepth 100000 in
theorem clos2 (A A' : Option Addr) (c c' n m : Nat) (L N : List Int) (v : Int) (gc : Nat) (k b g : Int) (w : World) (hc : Bk w gc 38 #[.int .i64 k, .int .i64 b, .int .i64 g]) (h1 : Zi w A n L) (h2 : Zi w A' m N)
    (hD : ∀ W, Bel w W → Calls Tryz.prog 12 #[.slice A n c, .slice A' m c', .int .i64 b] W fun e w' => e = .returned (.tuple #[.int .i64 v, .int .i64 0]) ∧ Bel W w') (v0 : 0 ≤ v) (v1 : v ≤ 2305843009213693952) :
    Calls Tryz.prog 74 #[.slice A n c, .slice A' m c', .pointer (some ⟨gc, 0, none⟩)] w fun e w' => e = .returned (.tuple #[.agg #[.int .i64 v, .int .i64 1], .int .i64 0]) ∧ Bel w w' := by
  have DD := Lib.hid hD
  have IN : Hid (∀ W, _) := fun W => integer_ok v v0 v1 W
  clear h1 h2 hD v0 v1
  have HC := Lib.hid hc
  have l0 : (w.alloc (.cells #[.int .i64 0, .int .i64 0] 42)).cell? ⟨gc, 0, none⟩ = some (.int .i64 k) := (hc.al _).cell 0
  have l1 : (w.alloc (.cells #[.int .i64 0, .int .i64 0] 42)).cell? ⟨gc, 1, none⟩ = some (.int .i64 b) := (hc.al _).cell 1
  have l2 : (w.alloc (.cells #[.int .i64 0, .int .i64 0] 42)).cell? ⟨gc, 2, none⟩ = some (.int .i64 g) := (hc.al _).cell 2
  have lt := hc.lt
  clear hc
  go_enter Tryz.func74, Tryz.ntmps74
  go_wp2_with fail
  go_at_call 12
  refine (DD.out _ (Bel.rf.al _)).mono ?_
  rintro e w1 ⟨rfl, hb1⟩
  have HB1 : Hid (Bel w w1) := (Bel.rf.al _).tr hb1
  have HK1 : Hid (Bk w1 w.heap.size 42 #[.int .i64 0, .int .i64 0]) := (Bk.nw _ _ _).bel hb1
  clear hb1
  go_wp2_with fail
  go_at_call 71
  refine (IN.out _).mono ?_
  rintro e w2 ⟨rfl, hb2⟩
  have K4 := HK1.out.bel hb2
  have l0 : w2.cell? ⟨w.heap.size, 0, none⟩ = some (.int .i64 0) := K4.cell 0
  have l1 : w2.cell? ⟨w.heap.size, 1, none⟩ = some (.int .i64 0) := K4.cell 1
  have j0 := K4.fr 0
  have j1 := K4.fr 1
  have HF : Hid (Bel w w2) := HB1.out.tr hb2
  clear hb2 K4
  go_wp2
  refine bodyPost_ret (v := .tuple #[.agg #[.int .i64 v, .int .i64 1], .int .i64 0]) (by simp [results, Tryz.results74, go_sem, l0, l1]) rfl ⟨rfl, ?_⟩
  exact (HF.out.st (Nat.le_refl _) _).st (Nat.le_refl _) _
set_option maxHeartbeats 2000000 in
set_option maxRecDepth 100000 in
theorem clos3 (A A' : Option Addr) (c c' n m : Nat) (L N : List Int) (v : Int) (gc : Nat) (k b g : Int) (w : World) (hc : Bk w gc 38 #[.int .i64 k, .int .i64 b, .int .i64 g]) (h1 : Zi w A n L) (h2 : Zi w A' m N)
    (hD : ∀ W, Bel w W → Calls Tryz.prog 76 #[.slice A n c, .slice A' m c', .int .i64 g] W fun e w' => e = .returned (.tuple #[.int .i64 v, .int .i64 0]) ∧ Bel W w') (v0 : 0 ≤ v) (v1 : v ≤ 2305843009213693952) :
    Calls Tryz.prog 75 #[.slice A n c, .slice A' m c', .pointer (some ⟨gc, 0, none⟩)] w fun e w' => e = .returned (.tuple #[.agg #[.int .i64 v, .int .i64 1], .int .i64 0]) ∧ Bel w w' := by
  have DD := Lib.hid hD
  have IN : Hid (∀ W, _) := fun W => integer_ok v v0 v1 W
  clear h1 h2 hD v0 v1
  have HC := Lib.hid hc
  have l0 : (w.alloc (.cells #[.int .i64 0, .int .i64 0] 42)).cell? ⟨gc, 0, none⟩ = some (.int .i64 k) := (hc.al _).cell 0
  have l1 : (w.alloc (.cells #[.int .i64 0, .int .i64 0] 42)).cell? ⟨gc, 1, none⟩ = some (.int .i64 b) := (hc.al _).cell 1
  have l2 : (w.alloc (.cells #[.int .i64 0, .int .i64 0] 42)).cell? ⟨gc, 2, none⟩ = some (.int .i64 g) := (hc.al _).cell 2
  have lt := hc.lt
  clear hc
  go_enter Tryz.func75, Tryz.ntmps75
  go_wp2_with fail
  go_at_call 76
  refine (DD.out _ (Bel.rf.al _)).mono ?_
  rintro e w1 ⟨rfl, hb1⟩
  have HB1 : Hid (Bel w w1) := (Bel.rf.al _).tr hb1
  have HK1 : Hid (Bk w1 w.heap.size 42 #[.int .i64 0, .int .i64 0]) := (Bk.nw _ _ _).bel hb1
  clear hb1
  go_wp2_with fail
  go_at_call 71
  refine (IN.out _).mono ?_
  rintro e w2 ⟨rfl, hb2⟩
  have K4 := HK1.out.bel hb2
  have l0 : w2.cell? ⟨w.heap.size, 0, none⟩ = some (.int .i64 0) := K4.cell 0
  have l1 : w2.cell? ⟨w.heap.size, 1, none⟩ = some (.int .i64 0) := K4.cell 1
  have j0 := K4.fr 0
  have j1 := K4.fr 1
  have HF : Hid (Bel w w2) := HB1.out.tr hb2
  clear hb2 K4
  go_wp2
  refine bodyPost_ret (v := .tuple #[.agg #[.int .i64 v, .int .i64 1], .int .i64 0]) (by simp [results, Tryz.results75, go_sem, l0, l1]) rfl ⟨rfl, ?_⟩
  exact (HF.out.st (Nat.le_refl _) _).st (Nat.le_refl _) _
set_option maxHeartbeats 4000000 in
set_option maxRecDepth 100000 in
theorem dist1 (b g : Int) (A A' : Option Addr) (c c' n m : Nat) (p q : Int) (hm : Mv 1 b g) (w : World)
    (hf : ∀ W gc, Bel w W → Bk W gc 38 #[.int .i64 1, .int .i64 b, .int .i64 g] → Calls Tryz.prog 70 #[.slice A n c, .slice A' m c'] W fun e w' => e = .returned (.tuple #[.agg #[.int .i64 p, .int .i64 q], .int .i64 0]) ∧ Bel W w') :
    Calls Tryz.prog 16 #[.agg #[.int .i64 1, .int .i64 b, .int .i64 g], .slice A n c, .slice A' m c'] w fun e w' => e = .returned (.tuple #[.agg #[.int .i64 p, .int .i64 q], .int .i64 0]) ∧ Bel w w' := by
  have CK : Hid (∀ W, _) := fun W => check_ok 1 b g hm W
  have DS : Hid (∀ W, _) := fun W => dists_ok 1 b g W
  have HF := Lib.hid hf
  have HT := Lib.hid (Tryz.underlying83)
  have HK := Lib.hid (Tryz.underlying3)
  clear hf hm
  go_enter Tryz.func16, Tryz.ntmps16
  go_wp2_with fail
  go_at_call 41
  refine (CK.out _).mono ?_
  rintro e w1 ⟨rfl, hb1⟩
  have HB1 : Hid (Bel w w1) := ((Bel.rf.al _).al _).tr hb1
  have K3 : Bk w1 w.heap.size 38 #[.int .i64 1, .int .i64 b, .int .i64 g] := ((Bk.nw _ _ _).al _).bel hb1
  have K6 : Bk w1 (w.heap.size + 1) 42 #[.int .i64 0, .int .i64 0] := (Bk.nq _ _ _ (by simp)).bel hb1
  have HK3 := Lib.hid K3
  have HK6 := Lib.hid K6
  have a0 := K3.cell 0
  have a1 := K3.cell 1
  have a2 := K3.cell 2
  have KS : Hid (∀ W', Bel w1 W' → ((fun w' => w'.cell? ⟨w.heap.size, 0, none⟩ = some (.int .i64 1) ∧ w'.cell? ⟨w.heap.size, 1, none⟩ = some (.int .i64 b) ∧ w'.cell? ⟨w.heap.size, 2, none⟩ = some (.int .i64 g)) W')) := fun W' h => ⟨h.kp a0, h.kp a1, h.kp a2⟩
  clear hb1 K3 K6 a0 a1 a2
  go_wp2_with fail
  go_region_held3 (fun w' => w'.cell? ⟨w.heap.size, 0, none⟩ = some (.int .i64 1) ∧ w'.cell? ⟨w.heap.size, 1, none⟩ = some (.int .i64 b) ∧ w'.cell? ⟨w.heap.size, 2, none⟩ = some (.int .i64 g))
    (first
      | (refine KS.out _ ?_; (repeat (first | with_reducible exact Bel.rf | (with_reducible refine Bel.drwN ?_ _) | (with_reducible refine Bel.drw ?_) | (refine Bel.tr ?_ (by assumption)))); done)
      | exact kp3 (KS.out s5 (by repeat (first | with_reducible exact Bel.rf | (with_reducible refine Bel.drwN ?_ _) | (with_reducible refine Bel.drw ?_) | (refine Bel.tr ?_ (by assumption))))))
    (first
      | (go_at_call 42; refine (DS.out _).mono ?_; rintro r s4 ⟨mh, gc, rfl, hmh, hgc, _, _, h4⟩; have hl0 := run_look HT.out HK.out s4 mh 5 (fns gc) 1 0 _ hmh rfl; have hl1 : ∀ nn, (Instr.lookup 83 (.map (some mh)) (.int .i64 1) false).run Tryz.prog (s4.drewN nn) = .ok _ (s4.drewN nn) := fun nn => run_look HT.out HK.out (s4.drewN nn) mh 5 (fns gc) 1 0 _ hmh rfl; have hl2 : (Instr.lookup 83 (.map (some mh)) (.int .i64 1) false).run Tryz.prog s4.drew = .ok _ s4.drew := run_look HT.out HK.out s4.drew mh 5 (fns gc) 1 0 _ hmh rfl; have HGC := Lib.hid hgc; clear hmh hgc)
      | (go_at_call 70; refine (HF.out _ gc (Bel.tr HB1.out (by repeat (first | with_reducible exact Bel.rf | (with_reducible refine Bel.drwN ?_ _) | (with_reducible refine Bel.drw ?_) | (refine Bel.tr ?_ (by assumption))))) (HGC.out.bel (by repeat (first | with_reducible exact Bel.rf | (with_reducible refine Bel.drwN ?_ _) | (with_reducible refine Bel.drw ?_) | (refine Bel.tr ?_ (by assumption)))))).mono ?_; rintro r s5 ⟨rfl, h5⟩; have K9 := HK6.out.bel (Bel.tr (by repeat (first | with_reducible exact Bel.rf | (with_reducible refine Bel.drwN ?_ _) | (with_reducible refine Bel.drw ?_) | (refine Bel.tr ?_ (by assumption)))) h5); have l0 : s5.cell? ⟨w.heap.size + 1, 0, none⟩ = some (.int .i64 0) := K9.cell 0; have l1 : s5.cell? ⟨w.heap.size + 1, 1, none⟩ = some (.int .i64 0) := K9.cell 1; have j0 := K9.fr 0; have j1 := K9.fr 1; clear K9))
  all_goals
    have HBB : Hid (Bel w s5) := (HB1.out.tr (by repeat (first | with_reducible exact Bel.rf | (with_reducible refine Bel.drwN ?_ _) | (with_reducible refine Bel.drw ?_) | (refine Bel.tr ?_ (by assumption)))))
    go_wp2
    refine bodyPost_ret (v := .tuple #[.agg #[.int .i64 p, .int .i64 q], .int .i64 0]) (by simp [results, Tryz.results16, go_sem, l0, l1]) rfl ⟨rfl, ?_⟩
    exact (HBB.out.st (Nat.le_succ _) _).st (Nat.le_succ _) _
set_option maxHeartbeats 4000000 in
set_option maxRecDepth 100000 in
theorem dist2 (b g : Int) (A A' : Option Addr) (c c' n m : Nat) (p q : Int) (hm : Mv 2 b g) (w : World)
    (hf : ∀ W gc, Bel w W → Bk W gc 38 #[.int .i64 2, .int .i64 b, .int .i64 g] → Calls Tryz.prog 72 #[.slice A n c, .slice A' m c'] W fun e w' => e = .returned (.tuple #[.agg #[.int .i64 p, .int .i64 q], .int .i64 0]) ∧ Bel W w') :
    Calls Tryz.prog 16 #[.agg #[.int .i64 2, .int .i64 b, .int .i64 g], .slice A n c, .slice A' m c'] w fun e w' => e = .returned (.tuple #[.agg #[.int .i64 p, .int .i64 q], .int .i64 0]) ∧ Bel w w' := by
  have CK : Hid (∀ W, _) := fun W => check_ok 2 b g hm W
  have DS : Hid (∀ W, _) := fun W => dists_ok 2 b g W
  have HF := Lib.hid hf
  have HT := Lib.hid (Tryz.underlying83)
  have HK := Lib.hid (Tryz.underlying3)
  clear hf hm
  go_enter Tryz.func16, Tryz.ntmps16
  go_wp2_with fail
  go_at_call 41
  refine (CK.out _).mono ?_
  rintro e w1 ⟨rfl, hb1⟩
  have HB1 : Hid (Bel w w1) := ((Bel.rf.al _).al _).tr hb1
  have K3 : Bk w1 w.heap.size 38 #[.int .i64 2, .int .i64 b, .int .i64 g] := ((Bk.nw _ _ _).al _).bel hb1
  have K6 : Bk w1 (w.heap.size + 1) 42 #[.int .i64 0, .int .i64 0] := (Bk.nq _ _ _ (by simp)).bel hb1
  have HK3 := Lib.hid K3
  have HK6 := Lib.hid K6
  have a0 := K3.cell 0
  have a1 := K3.cell 1
  have a2 := K3.cell 2
  have KS : Hid (∀ W', Bel w1 W' → ((fun w' => w'.cell? ⟨w.heap.size, 0, none⟩ = some (.int .i64 2) ∧ w'.cell? ⟨w.heap.size, 1, none⟩ = some (.int .i64 b) ∧ w'.cell? ⟨w.heap.size, 2, none⟩ = some (.int .i64 g)) W')) := fun W' h => ⟨h.kp a0, h.kp a1, h.kp a2⟩
  clear hb1 K3 K6 a0 a1 a2
  go_wp2_with fail
  go_region_held3 (fun w' => w'.cell? ⟨w.heap.size, 0, none⟩ = some (.int .i64 2) ∧ w'.cell? ⟨w.heap.size, 1, none⟩ = some (.int .i64 b) ∧ w'.cell? ⟨w.heap.size, 2, none⟩ = some (.int .i64 g))
    (first
      | (refine KS.out _ ?_; (repeat (first | with_reducible exact Bel.rf | (with_reducible refine Bel.drwN ?_ _) | (with_reducible refine Bel.drw ?_) | (refine Bel.tr ?_ (by assumption)))); done)
      | exact kp3 (KS.out s5 (by repeat (first | with_reducible exact Bel.rf | (with_reducible refine Bel.drwN ?_ _) | (with_reducible refine Bel.drw ?_) | (refine Bel.tr ?_ (by assumption))))))
    (first
      | (go_at_call 42; refine (DS.out _).mono ?_; rintro r s4 ⟨mh, gc, rfl, hmh, hgc, _, _, h4⟩; have hl0 := run_look HT.out HK.out s4 mh 5 (fns gc) 2 1 _ hmh rfl; have hl1 : ∀ nn, (Instr.lookup 83 (.map (some mh)) (.int .i64 2) false).run Tryz.prog (s4.drewN nn) = .ok _ (s4.drewN nn) := fun nn => run_look HT.out HK.out (s4.drewN nn) mh 5 (fns gc) 2 1 _ hmh rfl; have hl2 : (Instr.lookup 83 (.map (some mh)) (.int .i64 2) false).run Tryz.prog s4.drew = .ok _ s4.drew := run_look HT.out HK.out s4.drew mh 5 (fns gc) 2 1 _ hmh rfl; have HGC := Lib.hid hgc; clear hmh hgc)
      | (go_at_call 72; refine (HF.out _ gc (Bel.tr HB1.out (by repeat (first | with_reducible exact Bel.rf | (with_reducible refine Bel.drwN ?_ _) | (with_reducible refine Bel.drw ?_) | (refine Bel.tr ?_ (by assumption))))) (HGC.out.bel (by repeat (first | with_reducible exact Bel.rf | (with_reducible refine Bel.drwN ?_ _) | (with_reducible refine Bel.drw ?_) | (refine Bel.tr ?_ (by assumption)))))).mono ?_; rintro r s5 ⟨rfl, h5⟩; have K9 := HK6.out.bel (Bel.tr (by repeat (first | with_reducible exact Bel.rf | (with_reducible refine Bel.drwN ?_ _) | (with_reducible refine Bel.drw ?_) | (refine Bel.tr ?_ (by assumption)))) h5); have l0 : s5.cell? ⟨w.heap.size + 1, 0, none⟩ = some (.int .i64 0) := K9.cell 0; have l1 : s5.cell? ⟨w.heap.size + 1, 1, none⟩ = some (.int .i64 0) := K9.cell 1; have j0 := K9.fr 0; have j1 := K9.fr 1; clear K9))
  all_goals
    have HBB : Hid (Bel w s5) := (HB1.out.tr (by repeat (first | with_reducible exact Bel.rf | (with_reducible refine Bel.drwN ?_ _) | (with_reducible refine Bel.drw ?_) | (refine Bel.tr ?_ (by assumption)))))
    go_wp2
    refine bodyPost_ret (v := .tuple #[.agg #[.int .i64 p, .int .i64 q], .int .i64 0]) (by simp [results, Tryz.results16, go_sem, l0, l1]) rfl ⟨rfl, ?_⟩
    exact (HBB.out.st (Nat.le_succ _) _).st (Nat.le_succ _) _
set_option maxHeartbeats 4000000 in
set_option maxRecDepth 100000 in
theorem dist3 (b g : Int) (A A' : Option Addr) (c c' n m : Nat) (p q : Int) (hm : Mv 3 b g) (w : World)
    (hf : ∀ W gc, Bel w W → Bk W gc 38 #[.int .i64 3, .int .i64 b, .int .i64 g] → Calls Tryz.prog 73 #[.slice A n c, .slice A' m c'] W fun e w' => e = .returned (.tuple #[.agg #[.int .i64 p, .int .i64 q], .int .i64 0]) ∧ Bel W w') :
    Calls Tryz.prog 16 #[.agg #[.int .i64 3, .int .i64 b, .int .i64 g], .slice A n c, .slice A' m c'] w fun e w' => e = .returned (.tuple #[.agg #[.int .i64 p, .int .i64 q], .int .i64 0]) ∧ Bel w w' := by
  have CK : Hid (∀ W, _) := fun W => check_ok 3 b g hm W
  have DS : Hid (∀ W, _) := fun W => dists_ok 3 b g W
  have HF := Lib.hid hf
  have HT := Lib.hid (Tryz.underlying83)
  have HK := Lib.hid (Tryz.underlying3)
  clear hf hm
  go_enter Tryz.func16, Tryz.ntmps16
  go_wp2_with fail
  go_at_call 41
  refine (CK.out _).mono ?_
  rintro e w1 ⟨rfl, hb1⟩
  have HB1 : Hid (Bel w w1) := ((Bel.rf.al _).al _).tr hb1
  have K3 : Bk w1 w.heap.size 38 #[.int .i64 3, .int .i64 b, .int .i64 g] := ((Bk.nw _ _ _).al _).bel hb1
  have K6 : Bk w1 (w.heap.size + 1) 42 #[.int .i64 0, .int .i64 0] := (Bk.nq _ _ _ (by simp)).bel hb1
  have HK3 := Lib.hid K3
  have HK6 := Lib.hid K6
  have a0 := K3.cell 0
  have a1 := K3.cell 1
  have a2 := K3.cell 2
  have KS : Hid (∀ W', Bel w1 W' → ((fun w' => w'.cell? ⟨w.heap.size, 0, none⟩ = some (.int .i64 3) ∧ w'.cell? ⟨w.heap.size, 1, none⟩ = some (.int .i64 b) ∧ w'.cell? ⟨w.heap.size, 2, none⟩ = some (.int .i64 g)) W')) := fun W' h => ⟨h.kp a0, h.kp a1, h.kp a2⟩
  clear hb1 K3 K6 a0 a1 a2
  go_wp2_with fail
  go_region_held3 (fun w' => w'.cell? ⟨w.heap.size, 0, none⟩ = some (.int .i64 3) ∧ w'.cell? ⟨w.heap.size, 1, none⟩ = some (.int .i64 b) ∧ w'.cell? ⟨w.heap.size, 2, none⟩ = some (.int .i64 g))
    (first
      | (refine KS.out _ ?_; (repeat (first | with_reducible exact Bel.rf | (with_reducible refine Bel.drwN ?_ _) | (with_reducible refine Bel.drw ?_) | (refine Bel.tr ?_ (by assumption)))); done)
      | exact kp3 (KS.out s5 (by repeat (first | with_reducible exact Bel.rf | (with_reducible refine Bel.drwN ?_ _) | (with_reducible refine Bel.drw ?_) | (refine Bel.tr ?_ (by assumption))))))
    (first
      | (go_at_call 42; refine (DS.out _).mono ?_; rintro r s4 ⟨mh, gc, rfl, hmh, hgc, _, _, h4⟩; have hl0 := run_look HT.out HK.out s4 mh 5 (fns gc) 3 2 _ hmh rfl; have hl1 : ∀ nn, (Instr.lookup 83 (.map (some mh)) (.int .i64 3) false).run Tryz.prog (s4.drewN nn) = .ok _ (s4.drewN nn) := fun nn => run_look HT.out HK.out (s4.drewN nn) mh 5 (fns gc) 3 2 _ hmh rfl; have hl2 : (Instr.lookup 83 (.map (some mh)) (.int .i64 3) false).run Tryz.prog s4.drew = .ok _ s4.drew := run_look HT.out HK.out s4.drew mh 5 (fns gc) 3 2 _ hmh rfl; have HGC := Lib.hid hgc; clear hmh hgc)
      | (go_at_call 73; refine (HF.out _ gc (Bel.tr HB1.out (by repeat (first | with_reducible exact Bel.rf | (with_reducible refine Bel.drwN ?_ _) | (with_reducible refine Bel.drw ?_) | (refine Bel.tr ?_ (by assumption))))) (HGC.out.bel (by repeat (first | with_reducible exact Bel.rf | (with_reducible refine Bel.drwN ?_ _) | (with_reducible refine Bel.drw ?_) | (refine Bel.tr ?_ (by assumption)))))).mono ?_; rintro r s5 ⟨rfl, h5⟩; have K9 := HK6.out.bel (Bel.tr (by repeat (first | with_reducible exact Bel.rf | (with_reducible refine Bel.drwN ?_ _) | (with_reducible refine Bel.drw ?_) | (refine Bel.tr ?_ (by assumption)))) h5); have l0 : s5.cell? ⟨w.heap.size + 1, 0, none⟩ = some (.int .i64 0) := K9.cell 0; have l1 : s5.cell? ⟨w.heap.size + 1, 1, none⟩ = some (.int .i64 0) := K9.cell 1; have j0 := K9.fr 0; have j1 := K9.fr 1; clear K9))
  all_goals
    have HBB : Hid (Bel w s5) := (HB1.out.tr (by repeat (first | with_reducible exact Bel.rf | (with_reducible refine Bel.drwN ?_ _) | (with_reducible refine Bel.drw ?_) | (refine Bel.tr ?_ (by assumption)))))
    go_wp2
    refine bodyPost_ret (v := .tuple #[.agg #[.int .i64 p, .int .i64 q], .int .i64 0]) (by simp [results, Tryz.results16, go_sem, l0, l1]) rfl ⟨rfl, ?_⟩
    exact (HBB.out.st (Nat.le_succ _) _).st (Nat.le_succ _) _
set_option maxHeartbeats 4000000 in
set_option maxRecDepth 100000 in
theorem dist4 (b g : Int) (A A' : Option Addr) (c c' n m : Nat) (p q : Int) (hm : Mv 4 b g) (w : World)
    (hf : ∀ W gc, Bel w W → Bk W gc 38 #[.int .i64 4, .int .i64 b, .int .i64 g] → Calls Tryz.prog 74 #[.slice A n c, .slice A' m c', .pointer (some ⟨gc, 0, none⟩)] W fun e w' => e = .returned (.tuple #[.agg #[.int .i64 p, .int .i64 q], .int .i64 0]) ∧ Bel W w') :
    Calls Tryz.prog 16 #[.agg #[.int .i64 4, .int .i64 b, .int .i64 g], .slice A n c, .slice A' m c'] w fun e w' => e = .returned (.tuple #[.agg #[.int .i64 p, .int .i64 q], .int .i64 0]) ∧ Bel w w' := by
  have CK : Hid (∀ W, _) := fun W => check_ok 4 b g hm W
  have DS : Hid (∀ W, _) := fun W => dists_ok 4 b g W
  have HF := Lib.hid hf
  have HT := Lib.hid (Tryz.underlying83)
  have HK := Lib.hid (Tryz.underlying3)
  clear hf hm
  go_enter Tryz.func16, Tryz.ntmps16
  go_wp2_with fail
  go_at_call 41
  refine (CK.out _).mono ?_
  rintro e w1 ⟨rfl, hb1⟩
  have HB1 : Hid (Bel w w1) := ((Bel.rf.al _).al _).tr hb1
  have K3 : Bk w1 w.heap.size 38 #[.int .i64 4, .int .i64 b, .int .i64 g] := ((Bk.nw _ _ _).al _).bel hb1
  have K6 : Bk w1 (w.heap.size + 1) 42 #[.int .i64 0, .int .i64 0] := (Bk.nq _ _ _ (by simp)).bel hb1
  have HK3 := Lib.hid K3
  have HK6 := Lib.hid K6
  have a0 := K3.cell 0
  have a1 := K3.cell 1
  have a2 := K3.cell 2
  have KS : Hid (∀ W', Bel w1 W' → ((fun w' => w'.cell? ⟨w.heap.size, 0, none⟩ = some (.int .i64 4) ∧ w'.cell? ⟨w.heap.size, 1, none⟩ = some (.int .i64 b) ∧ w'.cell? ⟨w.heap.size, 2, none⟩ = some (.int .i64 g)) W')) := fun W' h => ⟨h.kp a0, h.kp a1, h.kp a2⟩
  clear hb1 K3 K6 a0 a1 a2
  go_wp2_with fail
  go_region_held3 (fun w' => w'.cell? ⟨w.heap.size, 0, none⟩ = some (.int .i64 4) ∧ w'.cell? ⟨w.heap.size, 1, none⟩ = some (.int .i64 b) ∧ w'.cell? ⟨w.heap.size, 2, none⟩ = some (.int .i64 g))
    (first
      | (refine KS.out _ ?_; (repeat (first | with_reducible exact Bel.rf | (with_reducible refine Bel.drwN ?_ _) | (with_reducible refine Bel.drw ?_) | (refine Bel.tr ?_ (by assumption)))); done)
      | exact kp3 (KS.out s5 (by repeat (first | with_reducible exact Bel.rf | (with_reducible refine Bel.drwN ?_ _) | (with_reducible refine Bel.drw ?_) | (refine Bel.tr ?_ (by assumption))))))
    (first
      | (go_at_call 42; refine (DS.out _).mono ?_; rintro r s4 ⟨mh, gc, rfl, hmh, hgc, _, _, h4⟩; have hl0 := run_look HT.out HK.out s4 mh 5 (fns gc) 4 3 _ hmh rfl; have hl1 : ∀ nn, (Instr.lookup 83 (.map (some mh)) (.int .i64 4) false).run Tryz.prog (s4.drewN nn) = .ok _ (s4.drewN nn) := fun nn => run_look HT.out HK.out (s4.drewN nn) mh 5 (fns gc) 4 3 _ hmh rfl; have hl2 : (Instr.lookup 83 (.map (some mh)) (.int .i64 4) false).run Tryz.prog s4.drew = .ok _ s4.drew := run_look HT.out HK.out s4.drew mh 5 (fns gc) 4 3 _ hmh rfl; have HGC := Lib.hid hgc; clear hmh hgc)
      | (go_at_call 74; refine (HF.out _ gc (Bel.tr HB1.out (by repeat (first | with_reducible exact Bel.rf | (with_reducible refine Bel.drwN ?_ _) | (with_reducible refine Bel.drw ?_) | (refine Bel.tr ?_ (by assumption))))) (HGC.out.bel (by repeat (first | with_reducible exact Bel.rf | (with_reducible refine Bel.drwN ?_ _) | (with_reducible refine Bel.drw ?_) | (refine Bel.tr ?_ (by assumption)))))).mono ?_; rintro r s5 ⟨rfl, h5⟩; have K9 := HK6.out.bel (Bel.tr (by repeat (first | with_reducible exact Bel.rf | (with_reducible refine Bel.drwN ?_ _) | (with_reducible refine Bel.drw ?_) | (refine Bel.tr ?_ (by assumption)))) h5); have l0 : s5.cell? ⟨w.heap.size + 1, 0, none⟩ = some (.int .i64 0) := K9.cell 0; have l1 : s5.cell? ⟨w.heap.size + 1, 1, none⟩ = some (.int .i64 0) := K9.cell 1; have j0 := K9.fr 0; have j1 := K9.fr 1; clear K9))
  all_goals
    have HBB : Hid (Bel w s5) := (HB1.out.tr (by repeat (first | with_reducible exact Bel.rf | (with_reducible refine Bel.drwN ?_ _) | (with_reducible refine Bel.drw ?_) | (refine Bel.tr ?_ (by assumption)))))
    go_wp2
    refine bodyPost_ret (v := .tuple #[.agg #[.int .i64 p, .int .i64 q], .int .i64 0]) (by simp [results, Tryz.results16, go_sem, l0, l1]) rfl ⟨rfl, ?_⟩
    exact (HBB.out.st (Nat.le_succ _) _).st (Nat.le_succ _) _
set_option maxHeartbeats 4000000 in
set_option maxRecDepth 100000 in
theorem dist5 (b g : Int) (A A' : Option Addr) (c c' n m : Nat) (p q : Int) (hm : Mv 5 b g) (w : World)
    (hf : ∀ W gc, Bel w W → Bk W gc 38 #[.int .i64 5, .int .i64 b, .int .i64 g] → Calls Tryz.prog 75 #[.slice A n c, .slice A' m c', .pointer (some ⟨gc, 0, none⟩)] W fun e w' => e = .returned (.tuple #[.agg #[.int .i64 p, .int .i64 q], .int .i64 0]) ∧ Bel W w') :
    Calls Tryz.prog 16 #[.agg #[.int .i64 5, .int .i64 b, .int .i64 g], .slice A n c, .slice A' m c'] w fun e w' => e = .returned (.tuple #[.agg #[.int .i64 p, .int .i64 q], .int .i64 0]) ∧ Bel w w' := by
  have CK : Hid (∀ W, _) := fun W => check_ok 5 b g hm W
  have DS : Hid (∀ W, _) := fun W => dists_ok 5 b g W
  have HF := Lib.hid hf
  have HT := Lib.hid (Tryz.underlying83)
  have HK := Lib.hid (Tryz.underlying3)
  clear hf hm
  go_enter Tryz.func16, Tryz.ntmps16
  go_wp2_with fail
  go_at_call 41
  refine (CK.out _).mono ?_
  rintro e w1 ⟨rfl, hb1⟩
  have HB1 : Hid (Bel w w1) := ((Bel.rf.al _).al _).tr hb1
  have K3 : Bk w1 w.heap.size 38 #[.int .i64 5, .int .i64 b, .int .i64 g] := ((Bk.nw _ _ _).al _).bel hb1
  have K6 : Bk w1 (w.heap.size + 1) 42 #[.int .i64 0, .int .i64 0] := (Bk.nq _ _ _ (by simp)).bel hb1
  have HK3 := Lib.hid K3
  have HK6 := Lib.hid K6
  have a0 := K3.cell 0
  have a1 := K3.cell 1
  have a2 := K3.cell 2
  have KS : Hid (∀ W', Bel w1 W' → ((fun w' => w'.cell? ⟨w.heap.size, 0, none⟩ = some (.int .i64 5) ∧ w'.cell? ⟨w.heap.size, 1, none⟩ = some (.int .i64 b) ∧ w'.cell? ⟨w.heap.size, 2, none⟩ = some (.int .i64 g)) W')) := fun W' h => ⟨h.kp a0, h.kp a1, h.kp a2⟩
  clear hb1 K3 K6 a0 a1 a2
  go_wp2_with fail
  go_region_held3 (fun w' => w'.cell? ⟨w.heap.size, 0, none⟩ = some (.int .i64 5) ∧ w'.cell? ⟨w.heap.size, 1, none⟩ = some (.int .i64 b) ∧ w'.cell? ⟨w.heap.size, 2, none⟩ = some (.int .i64 g))
    (first
      | (refine KS.out _ ?_; (repeat (first | with_reducible exact Bel.rf | (with_reducible refine Bel.drwN ?_ _) | (with_reducible refine Bel.drw ?_) | (refine Bel.tr ?_ (by assumption)))); done)
      | exact kp3 (KS.out s5 (by repeat (first | with_reducible exact Bel.rf | (with_reducible refine Bel.drwN ?_ _) | (with_reducible refine Bel.drw ?_) | (refine Bel.tr ?_ (by assumption))))))
    (first
      | (go_at_call 42; refine (DS.out _).mono ?_; rintro r s4 ⟨mh, gc, rfl, hmh, hgc, _, _, h4⟩; have hl0 := run_look HT.out HK.out s4 mh 5 (fns gc) 5 4 _ hmh rfl; have hl1 : ∀ nn, (Instr.lookup 83 (.map (some mh)) (.int .i64 5) false).run Tryz.prog (s4.drewN nn) = .ok _ (s4.drewN nn) := fun nn => run_look HT.out HK.out (s4.drewN nn) mh 5 (fns gc) 5 4 _ hmh rfl; have hl2 : (Instr.lookup 83 (.map (some mh)) (.int .i64 5) false).run Tryz.prog s4.drew = .ok _ s4.drew := run_look HT.out HK.out s4.drew mh 5 (fns gc) 5 4 _ hmh rfl; have HGC := Lib.hid hgc; clear hmh hgc)
      | (go_at_call 75; refine (HF.out _ gc (Bel.tr HB1.out (by repeat (first | with_reducible exact Bel.rf | (with_reducible refine Bel.drwN ?_ _) | (with_reducible refine Bel.drw ?_) | (refine Bel.tr ?_ (by assumption))))) (HGC.out.bel (by repeat (first | with_reducible exact Bel.rf | (with_reducible refine Bel.drwN ?_ _) | (with_reducible refine Bel.drw ?_) | (refine Bel.tr ?_ (by assumption)))))).mono ?_; rintro r s5 ⟨rfl, h5⟩; have K9 := HK6.out.bel (Bel.tr (by repeat (first | with_reducible exact Bel.rf | (with_reducible refine Bel.drwN ?_ _) | (with_reducible refine Bel.drw ?_) | (refine Bel.tr ?_ (by assumption)))) h5); have l0 : s5.cell? ⟨w.heap.size + 1, 0, none⟩ = some (.int .i64 0) := K9.cell 0; have l1 : s5.cell? ⟨w.heap.size + 1, 1, none⟩ = some (.int .i64 0) := K9.cell 1; have j0 := K9.fr 0; have j1 := K9.fr 1; clear K9))
  all_goals
    have HBB : Hid (Bel w s5) := (HB1.out.tr (by repeat (first | with_reducible exact Bel.rf | (with_reducible refine Bel.drwN ?_ _) | (with_reducible refine Bel.drw ?_) | (refine Bel.tr ?_ (by assumption)))))
    go_wp2
    refine bodyPost_ret (v := .tuple #[.agg #[.int .i64 p, .int .i64 q], .int .i64 0]) (by simp [results, Tryz.results16, go_sem, l0, l1]) rfl ⟨rfl, ?_⟩
    exact (HBB.out.st (Nat.le_succ _) _).st (Nat.le_succ _) _
end Go.Proofs.YtpbnabibnkohdaaGreatDoor.Ms
namespace Go.Proofs.YtpbnabibnkohdaaGreatDoor.Rr
open Go.Lib Ra
set_option linter.unusedVariables false
theorem dec_small {u : Nat} (h : u < 10) : decDigits u = [UInt8.ofNat (48 + u)] := by rw [decDigits, dif_pos h]
theorem dec_big {u : Nat} (h : ¬ u < 10) : decDigits u = decDigits (u / 10) ++ [UInt8.ofNat (48 + u % 10)] := by rw [decDigits, dif_neg h]
theorem u8 {d : Nat} (h : d < 10) : (UInt8.ofNat (48 + d)).toNat = 48 + d := by rw [UInt8.toNat_ofNat']; omega
theorem dec_dig (u : Nat) : ∀ c ∈ decDigits u, 48 ≤ c.toNat ∧ c.toNat ≤ 57 := by
  induction u using Nat.strongRecOn with
  | _ u ih =>
    by_cases h : u < 10
    · intro c hc
      rw [dec_small h, List.mem_singleton] at hc
      rw [hc, u8 h]; omega
    · intro c hc
      rw [dec_big h, List.mem_append, List.mem_singleton] at hc
      rcases hc with hc | hc
      · exact ih (u / 10) (by omega) c hc
      · rw [hc, u8 (by omega)]; omega
theorem dec_ne (u : Nat) : decDigits u ≠ [] := by
  intro e
  have h := decDigits_length u
  have := nDigits_pos u
  rw [e] at h; simp at h; omega
theorem p10_cons (acc : Nat) (c : UInt8) (r : List UInt8) (hc : 48 ≤ c.toNat ∧ c.toNat ≤ 57) (h1 : acc < 1844674407370955162) (h2 : acc * 10 + (c.toNat - 48) < 18446744073709551616) : parseUint10 acc (c :: r) = parseUint10 (acc * 10 + (c.toNat - 48)) r := by
  rw [parseUint10, if_pos hc, if_neg (by omega), if_neg (by omega)]
theorem p10_dec (u : Nat) : u < 9223372036854775808 → ∀ r, parseUint10 0 (decDigits u ++ r) = parseUint10 u r := by
  induction u using Nat.strongRecOn with
  | _ u ih =>
    intro hu r
    by_cases h : u < 10
    · have e := u8 h
      rw [dec_small h, List.singleton_append, p10_cons 0 _ r (by rw [e]; omega) (by omega) (by rw [e]; omega), e]
      congr 1; omega
    · have e := u8 (d := u % 10) (by omega)
      rw [dec_big h, List.append_assoc, ih (u / 10) (by omega) (by omega), List.singleton_append, p10_cons _ _ r (by rw [e]; omega) (by omega) (by rw [e]; omega), e]
      congr 1; omega
theorem atoi_dec (u : Nat) (hu : u < 9223372036854775808) : atoiAll (decDigits u) = .ok (u : Int) := by
  obtain ⟨c, t, hd⟩ : ∃ c t, decDigits u = c :: t := by
    rcases h : decDigits u with _ | ⟨c, t⟩
    · exact absurd h (dec_ne u)
    · exact ⟨c, t, rfl⟩
  have hc := dec_dig u c (by rw [hd]; exact List.mem_cons_self)
  have hp := p10_dec u hu []
  rw [List.append_nil, hd] at hp
  rw [hd, atoiAll_plain c t (by omega) (by omega)]
  unfold parseMag
  rw [if_neg (by simp), hp]
  show signless (.ok u) = _
  unfold signless
  simp only
  rw [if_neg (by omega)]
theorem or_dec (u : Nat) (hu : u < 9223372036854775808) : atoiOr (decDigits u) (-1) = (u : Int) := by
  unfold atoiOr
  rw [atoi_dec u hu]
theorem ib_none : ∀ (l : List UInt8), (∀ x ∈ l, 48 ≤ x.toNat ∧ x.toNat ≤ 57) → indexByte l 47 = -1
  | [], _ => rfl
  | b :: l, h => by
    have hb := h b List.mem_cons_self
    have e : (b == 47) = false := by
      rw [beq_eq_false_iff_ne]; rintro rfl
      have : (47 : UInt8).toNat = 47 := rfl
      omega
    rw [indexByte, e, ib_none l (fun x hx => h x (List.mem_cons_of_mem _ hx))]
    rfl
theorem ib_app : ∀ (l r : List UInt8), (∀ x ∈ l, 48 ≤ x.toNat ∧ x.toNat ≤ 57) → indexByte (l ++ 47 :: r) 47 = (l.length : Int)
  | [], r, _ => rfl
  | b :: l, r, h => by
    have hb := h b List.mem_cons_self
    have e : (b == 47) = false := by
      rw [beq_eq_false_iff_ne]; rintro rfl
      have : (47 : UInt8).toNat = 47 := rfl
      omega
    rw [List.cons_append, indexByte, e, ib_app l r (fun x hx => h x (List.mem_cons_of_mem _ hx))]
    have h2 : (((l.length : Int)) == -1) = false := by rw [beq_eq_false_iff_ne]; omega
    rw [h2]
    simp
/-- strings.Cut at "/" -/
def cut47 (l : List UInt8) : List UInt8 × List UInt8 × Bool := if 0 ≤ indexByte l 47 then (l.take (indexByte l 47).toNat, l.drop ((indexByte l 47).toNat + 1), true) else (l, [], false)
/-- the two numbers that Parse reads -/
def pn (l : List UInt8) : Int := atoiOr (cut47 l).1 (-1)
def pd (l : List UInt8) : Int := atoiOr (if (cut47 l).2.2 = true then (cut47 l).2.1 else [49]) (-1)
def fmt (n d : Int) : List UInt8 := if d = 1 then itoa n else itoa n ++ 47 :: itoa d
theorem itoa_pos {n : Int} (h : 0 ≤ n) : itoa n = decDigits n.toNat := by unfold itoa; rw [if_neg (by omega)]
theorem pr_fmt (n d : Int) (h : rv n d = true) : pn (fmt n d) = n ∧ pd (fmt n d) = d := by
  have r := (of_rv h).1
  have h0 := r.1
  have h1 := r.2.1
  have h2 := r.2.2.1
  have h3 := r.2.2.2
  unfold pn pd fmt
  by_cases hd : d = 1
  · rw [if_pos hd, itoa_pos h0]
    have e : cut47 (decDigits n.toNat) = (decDigits n.toNat, [], false) := by
      unfold cut47; rw [ib_none _ (dec_dig _)]; rfl
    rw [e]
    refine ⟨?_, ?_⟩
    · show atoiOr (decDigits n.toNat) (-1) = n
      rw [or_dec _ (by omega)]; omega
    · show atoiOr [49] (-1) = d
      rw [hd, show ([49] : List UInt8) = decDigits 1 by rw [dec_small (by omega)]; rfl, or_dec _ (by omega)]; rfl
  · rw [if_neg hd, itoa_pos h0, itoa_pos (by omega : 0 ≤ d)]
    have e : cut47 (decDigits n.toNat ++ 47 :: decDigits d.toNat) = (decDigits n.toNat, decDigits d.toNat, true) := by
      unfold cut47
      rw [ib_app _ _ (dec_dig _), if_pos (by omega), Int.toNat_natCast, List.take_left' rfl]
      have : (decDigits n.toNat ++ 47 :: decDigits d.toNat).drop ((decDigits n.toNat).length + 1) = decDigits d.toNat := by
        rw [List.drop_append, List.drop_of_length_le (by omega)]
        simp
      rw [this]
    rw [e]
    refine ⟨?_, ?_⟩
    · show atoiOr (decDigits n.toNat) (-1) = n
      rw [or_dec _ (by omega)]; omega
    · show atoiOr (decDigits d.toNat) (-1) = d
      rw [or_dec _ (by omega)]; omega
theorem dd_len : ∀ u : Nat, u ≤ 2305843009213693952 → (decDigits u).length ≤ 19 := by
  intro u hu
  have k : ∀ k u, k < nDigits u → 10 ^ k ≤ u ∨ k = 0 := by
    intro k
    induction k with
    | zero => intro u _; exact .inr rfl
    | succ k ih =>
      intro u hu
      by_cases h10 : u < 10
      · rw [nDigits_small h10] at hu; omega
      · rw [nDigits_big h10] at hu
        rcases ih (u / 10) (by omega) with h2 | h2
        · left; rw [Nat.pow_succ]; omega
        · left; subst h2; simp; omega
  rw [decDigits_length]
  rcases Nat.lt_or_ge 19 (nDigits u) with h | h
  · exfalso
    rcases k 19 u h with h2 | h2
    · have : (10 : Nat) ^ 19 = 10000000000000000000 := by decide
      omega
    · omega
  · exact h
theorem fmt_len (n d : Int) (h : rv n d = true) : (fmt n d).length ≤ 60 := by
  have r := (of_rv h).1
  have h0 := r.1
  have h1 := r.2.1
  have h2 := r.2.2.1
  have h3 := r.2.2.2
  have key : ∀ u : Nat, u ≤ 2305843009213693952 → nDigits u ≤ 19 := by
    intro u hu
    have k : ∀ k u, k < nDigits u → 10 ^ k ≤ u ∨ k = 0 := by
      intro k
      induction k with
      | zero => intro u _; exact .inr rfl
      | succ k ih =>
        intro u hu
        by_cases h10 : u < 10
        · rw [nDigits_small h10] at hu; omega
        · rw [nDigits_big h10] at hu
          rcases ih (u / 10) (by omega) with h2 | h2
          · left; rw [Nat.pow_succ]; omega
          · left; subst h2; simp; omega
    rcases Nat.lt_or_ge 19 (nDigits u) with h | h
    · exfalso
      rcases k 19 u h with h2 | h2
      · have : (10 : Nat) ^ 19 = 10000000000000000000 := by decide
        omega
      · omega
    · exact h
  have k1 := key n.toNat (by omega)
  have k2 := key d.toNat (by omega)
  unfold fmt
  rw [itoa_pos h0, itoa_pos (by omega : 0 ≤ d)]
  split
  · rw [decDigits_length]; omega
  · rw [List.length_append, List.length_cons, decDigits_length, decDigits_length]; omega
end Go.Proofs.YtpbnabibnkohdaaGreatDoor.Rr
namespace Go.Proofs.YtpbnabibnkohdaaGreatDoor.Ed
open Go.ChangeShapes Go.WideShapes Go.RowKit Wo Sr Wi
set_option linter.unusedVariables false
theorem bel_grown {w a b : World} {row : Option Nat} (h : Bel w a) (hg : a.grownBy b row) (hr : ∀ q, row = some q → w.heap.size ≤ q) : Bel w b := Below.grown h hg h.size hr
theorem own_base {w : World} {base size n : Nat} {e : TypeId} {v : Value} {xs : List Value} (h : w.ownsRow base e size v n xs) : ∀ q, v.ownBlock = some q → base ≤ q := fun q e => (h.lt q e).1
theorem zs_one (M : List Int) : ∀ u ∈ zs M, u.oneCell' = true := by
  intro u hu
  obtain ⟨x, _, rfl⟩ := List.mem_map.1 hu
  rfl
theorem zi_news {w : World} {ad : Addr} {m : Nat} {M : List Int} (hz : Zi w (some ad) m M) : ∀ j u, (zs M)[j]? = some u → w.cell? (ad.add j) = some u := by
  intro j u hu
  have hj : j < M.length := by
    rcases Nat.lt_or_ge j M.length with h | h
    · exact h
    · rw [List.getElem?_eq_none (by rw [zs_len]; exact h)] at hu; cases hu
  obtain ⟨ad', e, _, hcc⟩ := hz.2 (by have := hz.1; omega)
  cases e
  rw [zs_at hj] at hu
  cases hu
  exact hcc j (by have := hz.1; omega)
theorem run_app (w : World) (ty : TypeId) (base : Nat) (v : Value) (n : Nat) (L : List Int) (hown : w.ownsRow base 3 1 v n (zs L)) (ad : Addr) (m c : Nat) (M : List Int) (hz : Zi w (some ad) m M) (hn : n + m ≤ 1000000) (hbase : base ≤ w.heap.size) :
    ∃ v' w', (Builtin.append_ #[22, 22] ty #[v, .slice (some ad) m c]).run Tryz.prog w = .ok v' w' ∧ w'.ownsRow base 3 1 v' (n + m) (zs (L ++ M)) ∧ w.grownBy w' v.ownBlock ∧ (v'.ownBlock = v.ownBlock ∨ v'.ownBlock = some w.heap.size) := by
  obtain ⟨i0, hi0, hz0, hz1, hz2⟩ := info_parts info_int
  obtain ⟨v', w', hr, h2, h3, _, h5⟩ := run_append_own_at (P := Tryz.prog) w base 22 ty 3 i0 (.int .i64 0) 1 8 Tryz.underlying22 hi0 hz0 hz1 hz2 (by rfl) (by omega) v n (zs L) hown ad m c (zs M) (by rw [zs_len, hz.1]; omega) (zi_news hz) (zs_one M) (by unfold maxLen; omega) (by omega) hbase
  exact ⟨v', w', hr, by rw [zs_app]; exact h2, h3, h5⟩
theorem wp_app (w : World) {o : Oper} {a : Act} {K : Act → World → Prop} {Q : Exit → Act → World → Prop} (s x : Operand)
    (ho : o.op = .call { callee := .builtin .append, args := #[s, x], argTypes := #[22, 22] })
    (base : Nat) (v : Value) (n : Nat) (L : List Int) (hs : a.eval s = v) (hown : w.ownsRow base 3 1 v n (zs L)) (ad : Addr) (m c : Nat) (M : List Int) (hx : a.eval x = .slice (some ad) m c) (hz : Zi w (some ad) m M) (hn : n + m ≤ 1000000) (hbase : base ≤ w.heap.size)
    (h : ∀ v' w', w'.ownsRow base 3 1 v' (n + m) (zs (L ++ M)) → w.grownBy w' v.ownBlock → (v'.ownBlock = v.ownBlock ∨ v'.ownBlock = some w.heap.size) → K (a.put o.dst v') w') : o.wp Tryz.prog a w K Q := by
  obtain ⟨v', w', hr, h2, h3, h5⟩ := run_app w o.type base v n L hown ad m c M hz hn hbase
  unfold Oper.wp execOp
  simp only [ho, resolve, invoke, builtin, Sem.run_bind, Sem.run_pure, Result.andThen_ok, List.map_toArray, List.map_cons, List.map_nil, hs, hx, hr]
  exact h v' w' h2 h3 h5
theorem step_app (w : World) {ops : Array Oper} {o : Oper} {a : Act} {K : Act → World → Prop} {Q : Exit → Act → World → Prop} {E : Prop} (hgd : o.guard = none) (s x : Operand)
    (ho : o.op = .call { callee := .builtin .append, args := #[s, x], argTypes := #[22, 22] })
    (base : Nat) (v : Value) (n : Nat) (L : List Int) (hs : a.eval s = v) (hown : w.ownsRow base 3 1 v n (zs L)) (ad : Addr) (m c : Nat) (M : List Int) (hx : a.eval x = .slice (some ad) m c) (hz : Zi w (some ad) m M) (hn : n + m ≤ 1000000) (hbase : base ≤ w.heap.size)
    (h : ∀ v' w', w'.ownsRow base 3 1 v' (n + m) (zs (L ++ M)) → w.grownBy w' v.ownBlock → (v'.ownBlock = v.ownBlock ∨ v'.ownBlock = some w.heap.size) → K (a.put o.dst v') w') :
    if Region.wanted o (yielded ops a.tmps) = true then Oper.wp Tryz.prog o a w K Q else E := by
  have hw : Region.wanted o (yielded ops a.tmps) = true := by simp [Region.wanted, hgd]
  rw [if_pos hw]
  exact wp_app w s x ho base v n L hs hown ad m c M hx hz hn hbase h
theorem list_app (w : World) {ops : Array Oper} {rest : List Oper} {o : Oper} {a : Act} {Q : Exit → Act → World → Prop} (hgd : o.guard = none) (s x : Operand)
    (ho : o.op = .call { callee := .builtin .append, args := #[s, x], argTypes := #[22, 22] })
    (base : Nat) (v : Value) (n : Nat) (L : List Int) (hs : a.eval s = v) (hown : w.ownsRow base 3 1 v n (zs L)) (ad : Addr) (m c : Nat) (M : List Int) (hx : a.eval x = .slice (some ad) m c) (hz : Zi w (some ad) m M) (hn : n + m ≤ 1000000) (hbase : base ≤ w.heap.size)
    (h : ∀ v' w', w'.ownsRow base 3 1 v' (n + m) (zs (L ++ M)) → w.grownBy w' v.ownBlock → (v'.ownBlock = v.ownBlock ∨ v'.ownBlock = some w.heap.size) → wpList Tryz.prog ops Q rest (a.put o.dst v') w') : wpList Tryz.prog ops Q (o :: rest) a w :=
  wpList_plain hgd fun _ hK => wp_app w s x ho base v n L hs hown ad m c M hx hz hn hbase fun v' w' h2 h3 h5 => hK _ _ (h v' w' h2 h3 h5)
def mix (f : Int → Int) (L : List Int) (t : Nat) : List Int := (L.map f).take t ++ L.drop t
theorem mix_len (f : Int → Int) (L : List Int) (t : Nat) : (mix f L t).length = L.length := by simp [mix]; omega
theorem mix_at (f : Int → Int) (L : List Int) (t : Nat) (h : t < L.length) : (mix f L t).getD t 0 = L.getD t 0 := by
  simp only [mix, List.getD_eq_getElem?_getD]
  rw [List.getElem?_append_right (by simp; omega)]
  simp [List.length_take, Nat.min_eq_left (Nat.le_of_lt h)]
theorem mix_set (f : Int → Int) (L : List Int) (t : Nat) (h : t < L.length) : (mix f L t).set t (f (L.getD t 0)) = mix f L (t + 1) := by
  unfold mix
  have e : L.drop t = L.getD t 0 :: L.drop (t + 1) := by
    rw [List.drop_eq_getElem_cons h, List.getD_eq_getElem?_getD, List.getElem?_eq_getElem h]; rfl
  rw [e, List.set_append_right _ _ (by simp; omega)]
  have e2 : t - ((L.map f).take t).length = 0 := by simp; omega
  rw [e2, List.set_cons_zero, take_snoc (L.map f) t (by simpa using h), List.append_assoc]
  congr 2
  simp [List.getD_eq_getElem?_getD, h]
theorem mix_all (f : Int → Int) (L : List Int) : mix f L L.length = L.map f := by
  unfold mix
  rw [List.drop_length, List.append_nil, List.take_of_length_le (by simp)]
theorem map_at (f : Int → Int) (L : List Int) (t : Nat) (h : t < L.length) : (L.map f).getD t 0 = f (L.getD t 0) := by
  rw [List.getD_eq_getElem?_getD, List.getD_eq_getElem?_getD, List.getElem?_map, List.getElem?_eq_getElem h]; rfl
theorem zi_one {W : World} {g : Nat} {x : Int} (hb : Bk W g 3 #[.int .i64 x]) : Zi W (some ⟨g, 0, none⟩) 1 [x] := zi_bk (L := [x]) hb 1 rfl
theorem bk_grown {W W' : World} {g N : Nat} {t : TypeId} {cs : Array Value} {row : Option Nat} (h : Bk W g t cs) (hg : W.grownBy W' row) (hr : ∀ b, row = some b → b < N) (hN : N ≤ g) : Bk W' g t cs :=
  (hg.block g h.lt (fun e => by have := hr g e.symm; omega)).trans h
/-- four fifths -/
def fif (a : Int) : Int := (a * 4).tdiv 5
theorem fif_in {a : Int} (h0 : -1000 ≤ a) (h1 : a ≤ 1000) : -800 ≤ fif a ∧ fif a ≤ 800 := by
  unfold fif
  rcases Int.lt_or_le a 0 with h | h
  · have e : (a * 4).tdiv 5 = -((-(a * 4)).tdiv 5) := by rw [Int.neg_tdiv, Int.neg_neg]
    rw [e, Int.tdiv_eq_ediv_of_nonneg (by omega)]
    omega
  · rw [Int.tdiv_eq_ediv_of_nonneg (by omega)]
    omega
/-- t samples have been scaled, and appended shifted -/
def SL (X : List Int) (b : Int) (n h c B0 : Nat) (v : World) (s7 s21 : Value) (wr : World) : Prop := ∃ (t : Nat) (V : World) (u : Value), V = wr ∧ u = s7 ∧ t ≤ n ∧ s21 = .int .i64 (t : Int) ∧
  wr.ownsRow B0 3 1 (.slice (some ⟨h, 0, none⟩) n c) n (zs (mix fif X t)) ∧ wr.ownsRow v.heap.size 3 1 s7 t (zs (((X.map fif).take t).map (· + b))) ∧ Ch h v wr ∧ v.heap.size ≤ wr.heap.size
theorem sl_step {X : List Int} {b y : Int} {n h c B0 t : Nat} {v wr w2 : World} {s7 v' : Value} (ht : t < n) (hL : X.length = n) (hhB : h < v.heap.size) (hy : fif (X.getD t 0) = y)
    (h1 : wr.ownsRow B0 3 1 (.slice (some ⟨h, 0, none⟩) n c) n (zs (mix fif X t))) (h2 : wr.ownsRow v.heap.size 3 1 s7 t (zs (((X.map fif).take t).map (· + b)))) (hb : Ch h v wr) (hB : v.heap.size ≤ wr.heap.size)
    (h3 : w2.ownsRow v.heap.size 3 1 v' (t + 1) (zs (((X.map fif).take t).map (· + b) ++ [y + b])))
    (hgr : ((wr.setCell ⟨h, t, none⟩ (.int .i64 y)).alloc (.cells #[.int .i64 (y + b)] 3)).grownBy w2 s7.ownBlock) :
    SL X b n h c B0 v v' (.int .i64 ((t : Int) + 1)) w2 := by
  have hrow : ∀ q, s7.ownBlock = some q → v.heap.size ≤ q := fun q e => (h2.lt q e).1
  have k1 : ((wr.setCell ⟨h, t, none⟩ (.int .i64 y)).alloc (.cells #[.int .i64 (y + b)] 3)).ownsRow B0 3 1 (.slice (some ⟨h, 0, none⟩) n c) n (zs (mix fif X (t + 1))) := by
    rw [← mix_set fif X t (by omega), hy]
    exact (own_set h1 y).alloc _
  have k2 : Ch h v ((wr.setCell ⟨h, t, none⟩ (.int .i64 y)).alloc (.cells #[.int .i64 (y + b)] 3)) := (hb.st t _).al _
  refine ⟨t + 1, _, _, rfl, rfl, by omega, by congr 1, ?_, ?_, ?_, ?_⟩
  · exact k1.kept hgr (.inr (fun e => by have := hrow h e.symm; omega))
  · have e : ((X.map fif).take (t + 1)).map (· + b) = ((X.map fif).take t).map (· + b) ++ [y + b] := by
      rw [take_snoc (X.map fif) t (by simp; omega), List.map_append]
      have : (X.map fif).getD t 0 = y := by rw [← hy]; simp [List.getD_eq_getElem?_getD, show t < X.length by omega]
      rw [this]; rfl
    rw [e]
    exact h3
  · exact ch_grown k2 hgr hrow
  · have := hgr.size
    simp [World.setCell] at this
    omega
/-- t samples have been appended in reverse order -/
def RL (X : List Int) (n : Nat) (v : World) (s7 s21 : Value) (wr : World) : Prop := ∃ (t : Nat) (V : World) (u : Value), V = wr ∧ u = s7 ∧ t ≤ n ∧ s21 = .int .i64 (t : Int) ∧ wr.ownsRow v.heap.size 3 1 s7 t (zs (X.reverse.take t)) ∧ Bel v wr
theorem rl_step {X : List Int} {y : Int} {n t j : Nat} {v wr w2 : World} {s7 v' : Value} (ht : t < n) (hL : X.length = n) (hj : n - 1 - t = j) (hy : X.getD j 0 = y)
    (h2 : wr.ownsRow v.heap.size 3 1 s7 t (zs (X.reverse.take t))) (hb : Bel v wr)
    (h3 : w2.ownsRow v.heap.size 3 1 v' (t + 1) (zs (X.reverse.take t ++ [y]))) (hgr : (wr.alloc (.cells #[.int .i64 y] 3)).grownBy w2 s7.ownBlock) :
    RL X n v v' (.int .i64 ((t : Int) + 1)) w2 := by
  refine ⟨t + 1, _, _, rfl, rfl, by omega, by congr 1, ?_, bel_grown (hb.al _) hgr (own_base h2)⟩
  have h0 : X.reverse.getD (X.length - 1 - j) 0 = X.getD j 0 := rev_at (by omega)
  have e : X.reverse.getD t 0 = y := by rw [show X.length - 1 - j = t by omega] at h0; rw [h0]; exact hy
  rw [take_snoc X.reverse t (by rw [List.length_reverse]; omega), e]
  exact h3
theorem own_made {base : Nat} (W : World) (q : Nat) (hq : W.heap.size = q) (hb : base ≤ q) : (W.alloc (.cells #[] 3)).ownsRow base 3 1 (.slice (some ⟨q, 0, none⟩) 0 0) 0 (zs []) := by
  subst hq
  exact World.ownsRow_made (base := base) (e := 3) (size := 1) W #[] 0 hb (by unfold maxLen; omega) rfl
theorem zi_none {W : World} {A : Option Addr} : Zi W A 0 [] := ⟨rfl, fun h => by omega⟩
theorem zi_part {w : World} {h N : Nat} {Z : List Int} (hz : Zi w (some ⟨h, 0, none⟩) N Z) (i n : Nat) (hi : i + n ≤ N) : Zi w (some ⟨h, i, none⟩) n ((Z.drop i).take n) := by
  have hl := hz.1
  refine ⟨by simp; omega, fun hn => ?_⟩
  obtain ⟨ad, e, hx, _⟩ := hz.2 (by omega)
  cases e
  refine ⟨_, rfl, hx, fun j hj => ?_⟩
  have := hz.at (i + j) (by omega)
  rw [show (⟨h, i, none⟩ : Addr).add j = ⟨h, i + j, none⟩ by unfold Addr.add; split <;> simp_all, this]
  simp [List.getD_eq_getElem?_getD, hj]
theorem et_move (X Y : List Int) (g b : Int) (n m : Nat) (hx : X.length = n) (hy : Y.length = m) : et (X.map (· + b)) (Y.map (· + b)) (g + b) n m = et X Y g n m := by
  refine (et_cong (n := n) (m := m) (fun i hi => ?_) (fun j hj => ?_) _ n m rfl (Nat.le_refl _) (Nat.le_refl _)).symm
  · rw [map_at _ _ _ (by omega)]; omega
  · rw [map_at _ _ _ (by omega)]; omega
theorem et_puts (X Y : List Int) (g : Int) (k n m : Nat) (hk : k ≤ n) (hx : X.length = n) : et (X.take k ++ [g] ++ X.drop k) Y g (n + 1) m = et X Y g n m := by
  have p := et_put X g k (by omega)
  rw [hx] at p
  have p2 := et_sym X (X.take k ++ [g] ++ X.drop k) g _ n (n + 1) rfl
  have a := et_tri (X.take k ++ [g] ++ X.drop k) X Y g _ (n + 1) n m rfl
  have b := et_tri X (X.take k ++ [g] ++ X.drop k) Y g _ n (n + 1) m rfl
  omega
end Go.Proofs.YtpbnabibnkohdaaGreatDoor.Ed
namespace Go.Proofs.YtpbnabibnkohdaaGreatDoor.Wa
open Go.ChangeShapes Go.WideShapes Go.RowKit Wo Sr Wi Ed
set_option linter.unusedVariables false
theorem warped_ok (A A' : Option Addr) (c c' n m : Nat) (L M : List Int) (b : Int) (n1 : 2 ≤ n) (n2 : n ≤ 32) (m1 : 2 ≤ m) (m2 : m ≤ 32) (b0 : 0 ≤ b) (b32 : b ≤ 32) (b1 : (n : Int) - (m : Int) ≤ b) (b2 : (m : Int) - (n : Int) ≤ b) (hs : Sam L) (ht : Sam M) (w : World) (h1 : Zi w A n L) (h2 : Zi w A' m M) :
    Calls Tryz.prog 31 #[.slice A n c, .slice A' m c', .int .i64 b] w fun e w' => e = .returned (.int .i64 0) ∧ Bel w w' := by
  have HW := Lib.hid (windows_ok A A' c c' n m L M b n1 n2 m1 m2 b1 b2 hs ht w h1 h2)
  clear h1 h2 hs ht
  go_enter Tryz.func31, Tryz.ntmps31
  go_wp2_with (go_at_call 52; refine HW.out.mono ?_; rintro e w2 ⟨rfl, hb2⟩)
  go_ret
  exact ⟨rfl, hb2⟩
/-- two windows in new rows and a band that they fit -/
def SomeU (g : Nat) (w : World) (e : Ending) (w' : World) : Prop := ∃ (a b c d n m : Nat) (L M : List Int) (k : Int), e = .returned (.tuple #[.slice (some ⟨a, 0, none⟩) n b, .slice (some ⟨c, 0, none⟩) m d, .int .i64 k]) ∧ 2 ≤ n ∧ n ≤ 32 ∧ 2 ≤ m ∧ m ≤ 32 ∧ a ≠ c ∧ n ≤ b ∧ m ≤ d ∧ 0 ≤ k ∧ k ≤ 32 ∧ (n : Int) - (m : Int) ≤ k ∧ (m : Int) - (n : Int) ≤ k ∧
  w'.ownsRow w.heap.size 3 1 (.slice (some ⟨a, 0, none⟩) n b) n (zs L) ∧ w'.ownsRow w.heap.size 3 1 (.slice (some ⟨c, 0, none⟩) m d) m (zs M) ∧ L.length = n ∧ M.length = m ∧ Sam L ∧ Sam M ∧ Ok w' g ∧ Ch g w w'
end Go.Proofs.YtpbnabibnkohdaaGreatDoor.Wa
namespace Go.Proofs.YtpbnabibnkohdaaGreatDoor.Wa
open Go.ChangeShapes Go.WideShapes Go.RowKit Wo Sr Wi Ed
set_option linter.unusedVariables false
set_option maxRecDepth 100000 in
theorem square_ok (d : Int) (h0 : -2000 ≤ d) (h1 : d ≤ 2000) (w : World) : Calls Tryz.prog 55 #[.int .i64 d] w fun e w' => e = .returned (.int .i64 (d * d)) ∧ w = w' := by
  have hb := sq_bd (B := 2000) h0 h1
  have w1 : wrap64 (d * d) = d * d := IntWalk.wrap64_in _ (by omega)
  go_enter Tryz.func55, Tryz.ntmps55
  go_wp2
  go_ret
  exact ⟨rfl, rfl⟩
set_option maxRecDepth 100000 in
theorem mul64_one (k : Nat) (hk : k ≤ 1000) (w : World) : Calls Tryz.prog 127 #[.int .u64 1, .int .u64 (k : Int)] w fun e w' => e = .returned (.tuple #[.int .u64 0, .int .u64 (k : Int)]) ∧ w = w' := by
  have a1 : bits .and .u64 1 4294967295 = 1 := by decide
  have a2 : bits .and .u64 (k : Int) 4294967295 = (k : Int) := by
    have h := bits_and_u64_nat k 4294967295 (by omega) (by omega)
    have e : k &&& 4294967295 = k % 4294967296 := Nat.and_two_pow_sub_one_eq_mod k 32
    rw [e, Nat.mod_eq_of_lt (by omega)] at h
    exact h
  have a3 : bits .and .u64 0 4294967295 = 0 := by decide
  have ki : (k : Int) ≤ 1000 := by omega
  have w1 : (k : Int) / 4294967296 = 0 := by omega
  have w2 : (k : Int) % 18446744073709551616 = (k : Int) := by omega
  have w3 : IntKind.u64.wrap (k : Int) = (k : Int) := by rw [IntKind.wrap_u64]; omega
  have w4 : IntKind.u64.wrap 0 = 0 := by decide
  clear ki
  go_enter Tryz.func127, Tryz.ntmps127
  go_wp2
  go_ret2
  exact ⟨rfl, rfl⟩
set_option maxRecDepth 100000 in
theorem mul_one (k : Nat) (hk : k ≤ 1000) (w : World) : Calls Tryz.prog 99 #[.int .u64 1, .int .u64 (k : Int)] w fun e w' => e = .returned (.tuple #[.int .u64 0, .int .u64 (k : Int)]) ∧ w = w' := by
  go_enter Tryz.func99, Tryz.ntmps99
  go_wp2_with (go_at_call 127; refine (mul64_one k hk _).mono ?_; rintro e w2 ⟨rfl, rfl⟩)
  go_ret2
  exact ⟨rfl, rfl⟩
set_option maxRecDepth 100000 in
theorem splice_zs (Z Y : List Int) (n : Nat) : splice (zs Z) n (zs Y) = zs (splice Z n Y) := by
  simp [splice, zs]
theorem splice_rep {Z : List Int} {x : Int} {k n q : Nat} (hl : Z.length = k) (hq : n + q ≤ k) (hz : ∀ i, i < n → Z.getD i 0 = x) : (splice Z n (List.replicate q x)).length = k ∧ ∀ i, i < n + q → (splice Z n (List.replicate q x)).getD i 0 = x := by
  refine ⟨by rw [length_splice _ _ _ (by simp; omega)]; exact hl, fun i hi => ?_⟩
  unfold splice
  rw [List.getD_eq_getElem?_getD]
  rcases Nat.lt_or_ge i n with h | h
  · rw [List.getElem?_append_left (by simp; omega), List.getElem?_take_of_lt h, ← List.getD_eq_getElem?_getD]
    exact hz i h
  · rw [List.getElem?_append_right (by simp; omega), List.getElem?_append_left (by simp; omega)]
    have e : i - min n Z.length < q := by omega
    simp [e]
set_option maxRecDepth 100000 in
theorem all_rep {Z : List Int} {x : Int} {k : Nat} (hl : Z.length = k) (hz : ∀ i, i < k → Z.getD i 0 = x) : Z = List.replicate k x := by
  apply List.ext_getElem?
  intro i
  rcases Nat.lt_or_ge i k with h | h
  · have := hz i h
    rw [List.getD_eq_getElem?_getD, List.getElem?_eq_getElem (by omega)] at this
    rw [List.getElem?_eq_getElem (by omega), List.getElem?_replicate, if_pos h]
    exact congrArg some this
  · rw [List.getElem?_eq_none (by omega), List.getElem?_eq_none (by simpa using h)]
set_option maxRecDepth 100000 in
theorem size_int : (Tryz.prog.info? 3).map (·.size) = some 1 := by kernel_rfl
set_option maxHeartbeats 4000000 in
theorem repeat_ok (g : Nat) (x : Int) (k : Nat) (k1 : 1 ≤ k) (k2 : k ≤ 100) (w : World) (hc : w.cell? ⟨g, 0, none⟩ = some (.int .i64 x)) :
    Calls Tryz.prog 66 #[.slice (some ⟨g, 0, none⟩) 1 1, .int .i64 (k : Int)] w fun e w' => e = .returned (.slice (some ⟨w.heap.size, 0, none⟩) k k) ∧ Bk w' w.heap.size 3 (zs (List.replicate k x)).toArray ∧ Bel w w' := by
  have ki1 : 1 ≤ (k : Int) := by omega
  have ki2 : (k : Int) ≤ 100 := by omega
  have wk : IntKind.u64.wrap (k : Int) = (k : Int) := by rw [IntKind.wrap_u64]; omega
  have wk2 : wrap64 (k : Int) = (k : Int) := IntWalk.wrap64_in _ (by omega)
  have wk3 : IntKind.i64.wrap (k : Int) = (k : Int) := IntWalk.i64_in _ (by omega)
  obtain ⟨i0, hi0, hz0, hz1, hz2⟩ := info_parts info_int
  have HI := Lib.hid (And.intro hi0 (And.intro hz0 (And.intro hz1 hz2)))
  have HC := Lib.hid hc
  have hw := World.block_lt_of_cell? w _ hc
  have HNW := Lib.hid (Bk.nw w 3 (zs (List.replicate k 0)).toArray)
  have HCA : Hid ((w.alloc (.cells (zs (List.replicate k 0)).toArray 3)).cell? ⟨g, 0, none⟩ = some (.int .i64 x)) := kp_al hc _
  have HMIN : Hid ((zs [x]).length = Nat.min 1 k) := by show 1 = min 1 k; omega
  have HFT : Hid (0 + (zs [x]).length ≤ (zs (List.replicate k 0)).length) := by show 0 + 1 ≤ _; rw [zs_len, List.length_replicate]; omega
  have HSR0 : Hid (∀ j v, (zs [x])[j]? = some v → (w.alloc (.cells (zs (List.replicate k 0)).toArray 3)).cell? ((⟨g, 0, none⟩ : Addr).add j) = some v) := fun j v hv => by
    rcases j with _ | j
    · have hv2 : (Value.int .i64 x) = v := by simpa [zs] using hv
      rw [← hv2, add_row]; exact HCA.out
    · simp [zs] at hv
  clear hi0 hz0 hz1 hz2 hc hw
  go_enter Tryz.func66, Tryz.ntmps66
  go_wp2_with (first
    | (go_at_call 99; refine (mul_one k (by omega) _).mono ?_; rintro e w2 ⟨rfl, rfl⟩)
    | (refine wpList_make_any _ rfl (.tmp 29) (.tmp 29) 22 rfl 3 i0 (.int .i64 0) 1 Tryz.underlying22 HI.out.1 HI.out.2.1 HI.out.2.2.1 .i64 .i64 _ _ k k rfl rfl rfl rfl (by omega) (by rw [HI.out.2.2.2]; omega) (by omega) ?_; rw [made_i64])
    | (refine wpList_copy_splice rfl (.tmp 31) (.tmp 32) 22 22 rfl 3 Tryz.underlying22 size_int (some ⟨w.heap.size, 0, none⟩) (some ⟨g, 0, none⟩) k k 1 1 rfl rfl w.heap.size 0 (zs (List.replicate k 0)) 3 HNW.out (zs [x]) HMIN.out (fun _ => ⟨rfl, _, rfl, HSR0.out⟩) HFT.out (zs_one _) w.heap.size w (Bel.rf.al _) (Nat.le_refl _) ?_; intro w2 hg2 hb2))
  go_loopw [8] (fun s8 wr => ∃ (t : Nat) (V : World) (Z : List Int), V = wr ∧ 1 ≤ t ∧ t ≤ k ∧ s8 = .int .i64 (t : Int) ∧ Z.length = k ∧ (∀ i, i < t → Z.getD i 0 = x) ∧ Bk wr w.heap.size 3 (zs Z).toArray ∧ Bel w wr) (fun s8 _ => k - (intOf s8).toNat)
  case atStart =>
    rw [splice_zs] at hg2
    have h := splice_rep (Z := List.replicate k 0) (x := x) (k := k) (n := 0) (q := 1) (by simp) (by omega) (fun i hi => by omega)
    exact ⟨1, _, _, rfl, by omega, by omega, rfl, h.1, h.2, hg2.out, hb2⟩
  case round =>
    obtain ⟨t, wr, Z, hwr, ht1, htk, rfl, hlz, hzt, hk, hb⟩ := hrel
    subst hwr
    clear hg2 hb2 wk wk2 wk3
    have HK := Lib.hid hk
    have HB := Lib.hid hb
    have HZT := Lib.hid hzt
    have HLZ := Lib.hid hlz
    have hlt := hk.lt
    clear hk hb hzt hlz
    rcases Nat.lt_or_ge t k with h | h
    · obtain ⟨y, hy⟩ : ∃ y, Nat.min t (k - t) = y := ⟨_, rfl⟩
      have hy1 : y ≤ t ∧ y ≤ k - t ∧ 1 ≤ y := by rw [← hy]; show min t (k - t) ≤ t ∧ min t (k - t) ≤ k - t ∧ 1 ≤ min t (k - t); omega
      have hkt : ¬ k = t := by omega
      have hti : (t : Int) < (k : Int) := by omega
      have hti2 : (t : Int) ≤ (k : Int) := by omega
      have htl : t ≤ k := htk
      have HSR := Lib.hid (splice_rep HLZ.out (x := x) (n := t) (q := y) (by omega) HZT.out)
      have HY := Lib.hid (And.intro hy hy1)
      obtain ⟨z, hz⟩ : ∃ z, t + y = z := ⟨_, rfl⟩
      have hzi : (t : Int) + (y : Int) = (z : Int) := by omega
      have hzk : z ≤ k ∧ t < z := by omega
      have HZZ := Lib.hid (And.intro hz hzk)
      have HL1 : Hid ((zs (List.replicate y x)).length = Nat.min t (k - t)) := by show _ = _; rw [zs_len, List.length_replicate]; exact HY.out.1.symm
      have HL2 : Hid (t + (zs (List.replicate y x)).length ≤ (zs Z).length) := by show _ ≤ _; rw [zs_len, zs_len, List.length_replicate, HLZ.out]; have := HY.out; omega
      have hzl : (zs (List.replicate y x)).length = y := by rw [zs_len, List.length_replicate]
      have zb : -9223372036854775808 ≤ (z : Int) ∧ (z : Int) ≤ 9223372036854775807 := by omega
      have wy : wrap64 (z : Int) = (z : Int) := IntWalk.wrap64_in _ zb
      have wy3 : IntKind.i64.wrap (z : Int) = (z : Int) := IntWalk.i64_in _ zb
      clear hz hzk zb
      clear hy hy1
      have HSRC : Hid (∀ W, Bk W w.heap.size 3 (zs Z).toArray → ∀ j v, (zs (List.replicate y x))[j]? = some v → W.cell? ((⟨w.heap.size, 0, none⟩ : Addr).add j) = some v) := fun W hW j v hv => by
        have hj : j < y := by
          rcases Nat.lt_or_ge j y with h | h
          · exact h
          · rw [List.getElem?_eq_none (by simpa [zs] using h)] at hv; cases hv
        have hz := (zi_bk hW k HLZ.out).at j (by have := HY.out; omega)
        rw [HZT.out j (by have := HY.out; omega)] at hz
        simp [zs, hj] at hv
        rw [add_row, ← hv]
        exact hz
      go_wp2
      go_region_law (refine step_copy_splice rfl (.tmp 41) (.tmp 44) 22 22 rfl 3 Tryz.underlying22 size_int (some ⟨w.heap.size, t, none⟩) (some ⟨w.heap.size, 0, none⟩) (k - t) (k - t) t k (by simp [Act.eval, Act.put]) (by simp [Act.eval, Act.put]) w.heap.size t (zs Z) 3 (by first | exact HK.out | exact HK.out.drwN _ | exact HK.out.drw) (zs (List.replicate y x)) HL1.out (fun _ => ⟨rfl, _, rfl, by first | exact HSRC.out _ HK.out | exact HSRC.out _ (HK.out.drwN _) | exact HSRC.out _ HK.out.drw⟩) HL2.out (zs_one _) w.heap.size w (by first | exact HB.out | exact HB.out.drwN _ | exact HB.out.drw) (Nat.le_refl _) ?_; intro w4 hg4 hb4)
      all_goals
        rw [splice_zs] at hg4
        (try simp only [hzl, hzi, wy3])
        (try go_simp)
        go_roundw
        case rel =>
          refine ⟨_, _, _, _, _, _, _, _, _, _, _, _, _, _, ?_, rfl⟩
          exact ⟨z, _, _, rfl, by have := HZZ.out; omega, HZZ.out.2.1, by first | rfl | go_num, HSR.out.1, by rw [← HZZ.out.1]; exact HSR.out.2, hg4.out, hb4⟩
        case measure => (have := HZZ.out; simp [intOf]; omega)
    · obtain rfl : t = k := by omega
      have e := all_rep HLZ.out HZT.out
      have HK2 := HK
      rw [e] at HK2
      clear e
      go_wp2
      go_ret
      exact ⟨rfl, HK2.out, HB.out⟩
set_option maxRecDepth 100000 in
theorem border_ok (A : Option Addr) (c m : Nat) (hm : m ≤ 64) (w : World) :
    Calls Tryz.prog 54 #[.slice A m c] w fun e w' => ∃ a, e = .returned (.slice (some ⟨a, 0, none⟩) (m + 1) (m + 1)) ∧ w.heap.size ≤ a ∧ Bk w' a 3 (zs (List.replicate (m + 1) far)).toArray ∧ Bel w w' := by
  have mi : (m : Int) ≤ 64 := by omega
  obtain ⟨k, hk⟩ : ∃ k, m + 1 = k := ⟨_, rfl⟩
  have hki : (m : Int) + 1 = (k : Int) := by omega
  have kb : 1 ≤ k ∧ k ≤ 100 := by omega
  have zb : -9223372036854775808 ≤ (k : Int) ∧ (k : Int) ≤ 9223372036854775807 := by omega
  have wk : wrap64 (k : Int) = (k : Int) := IntWalk.wrap64_in _ zb
  have HR := Lib.hid (repeat_ok w.heap.size far k kb.1 kb.2 (w.alloc (.cells #[.int .i64 far] 3)))
  have HC : Hid ((w.alloc (.cells #[.int .i64 far] 3)).cell? ⟨w.heap.size, 0, none⟩ = some (.int .i64 far)) := by
    exact (Bk.nw w 3 #[.int .i64 far]).cell 0
  clear zb kb
  rw [hk]
  clear hk
  go_enter Tryz.func54, Tryz.ntmps54
  go_wp2_with fail
  go_at_call 66
  refine (HR.out HC.out).mono ?_
  rintro e w2 ⟨rfl, hk2, hb2⟩
  have HK := Lib.hid hk2
  have HB : Hid (Bel w w2) := (Bel.rf.al _).tr hb2
  clear hk2 hb2
  go_wp2
  go_ret
  exact ⟨w.heap.size + 1, rfl, by omega, by have := HK.out; rwa [show (w.alloc (.cells #[.int .i64 far] 3)).heap.size = w.heap.size + 1 by simp] at this, HB.out⟩
end Go.Proofs.YtpbnabibnkohdaaGreatDoor.Wa
namespace Go.Proofs.YtpbnabibnkohdaaGreatDoor.Wa
open Go.ChangeShapes Go.WideShapes Go.RowKit Wo Sr Wi Ed
set_option linter.unusedVariables false
/-- a row of the table -/
def Rw (L M : List Int) (b : Int) (i m : Nat) (Z : List Int) : Prop := Z.length = m + 1 ∧ ∀ t, t ≤ m → Z.getD t 0 = wt L M b i t
theorem mn3_if (a b c : Int) : mn3 a b c = (if c < if b < a then b else a then c else if b < a then b else a) := by
  unfold mn3 mn
  (repeat' split) <;> omega
theorem set_at (A : List Int) (k i : Nat) (y : Int) : (A.set k y).getD i 0 = if i = k ∧ i < A.length then y else A.getD i 0 := by
  rw [List.getD_eq_getElem?_getD, List.getD_eq_getElem?_getD, List.getElem?_set]
  rcases Classical.em (k = i) with rfl | h
  · rcases Nat.lt_or_ge k A.length with h2 | h2
    · simp [h2]
    · simp [Nat.not_lt.2 h2]
  · rw [if_neg h, if_neg (by omega)]
theorem bk_sz {w : World} {q m : Nat} {Z : List Int} (h : Bk w q 3 (zs Z).toArray) (hl : Z.length = m + 1) {t : Nat} (ht : t ≤ m) : w.cell? ⟨q, t, none⟩ = some (.int .i64 (Z.getD t 0)) := by
  rw [h.cell]
  simpa using zs_at (show t < Z.length by omega)
theorem bk_set {w : World} {q : Nat} {Z : List Int} (h : Bk w q 3 (zs Z).toArray) (t : Nat) (y : Int) : Bk (w.setCell ⟨q, t, none⟩ (.int .i64 y)) q 3 (zs (Z.set t y)).toArray := by
  have := h.st t (.int .i64 y)
  rwa [show ((zs Z).toArray.setIfInBounds t (.int .i64 y)) = (zs (Z.set t y)).toArray by simp [zs, List.map_set]] at this
/-- what the shown rows are handed to keeps -/
structure Shows (A A' : Option Addr) (n m : Nat) (L M : List Int) (b : Int) (K : FuncId) (caps : Array Value) (J : Nat → Nat → Nat → World → Prop) : Prop where
  zi : ∀ {p q i : Nat} {W : World}, J p q i W → Zi W A n L ∧ Zi W A' m M
  sw : ∀ {p q i : Nat} {W : World}, J p q i W → J q p i W
  st : ∀ {p q i : Nat} {W : World} (j : Nat) (u : Value), J p q i W → J p q i (W.setCell ⟨q, j, none⟩ u)
  dr : ∀ {p q i : Nat} {W : World}, J p q i W → J p q i W.drew
  dn : ∀ {p q i : Nat} {W : World} (k : Nat), J p q i W → J p q i (W.drewN k)
  call : ∀ {p q i : Nat} {W : World} {Zp Zq : List Int}, i < n → J p q i W → p ≠ q → Bk W p 3 (zs Zp).toArray → Bk W q 3 (zs Zq).toArray → Rw L M b (i + 1) m Zq →
    Calls Tryz.prog K (#[.slice (some ⟨q, 0, none⟩) (m + 1) (m + 1)] ++ caps) W fun e W' => e = .returned (.tuple #[]) ∧ J p q (i + 1) W' ∧ Bk W' p 3 (zs Zp).toArray ∧ Bk W' q 3 (zs Zq).toArray
theorem kp_st {W : World} {b i j : Nat} {v : Value} (h : W.cell? ⟨b, i, none⟩ = some v) (hne : i ≠ j) (u : Value) : (W.setCell ⟨b, j, none⟩ u).cell? ⟨b, i, none⟩ = some v :=
  (World.cell?_setCell_other _ _ _ _ (fun e => by have := congrArg Addr.off e; simp at this; omega)).trans h
theorem kp_fb {W : World} {a b i j : Nat} {v : Value} (h : W.cell? ⟨a, i, none⟩ = some v) (hne : a ≠ b) (u : Value) : (W.setCell ⟨b, j, none⟩ u).cell? ⟨a, i, none⟩ = some v :=
  (World.cell?_setCell_other _ _ _ _ (fun e => by have := congrArg Addr.block e; simp at this; omega)).trans h
set_option maxHeartbeats 8000000 in
set_option maxRecDepth 100000 in
theorem search_any (A A' : Option Addr) (c c' n m : Nat) (L M : List Int) (b : Int) (n1 : 1 ≤ n) (n2 : n ≤ 33) (m1 : 1 ≤ m) (m2 : m ≤ 33) (b0 : 0 ≤ b) (b32 : b ≤ 32) (hs : Sam L) (ht : Sam M) (K : FuncId) (caps : Array Value) (J : Nat → Nat → Nat → World → Prop)
    (eK : ∀ args w, (callFunc K args).run Tryz.prog w = .ok (.enter K args) w) (HJ : Shows A A' n m L M b K caps J) (w : World) (h0 : ∀ p q W, Bel w W → w.heap.size ≤ p → w.heap.size ≤ q → J p q 0 W) (hz : Zi w A' m M) :
    Calls Tryz.prog 32 #[.slice A n c, .slice A' m c', .int .i64 b, .func (.func K) #[] caps] w fun e w' => e = .returned (.tuple #[]) ∧ ∃ p q, J p q n w' := by
  have HS := Lib.hid hs
  have HT := Lib.hid ht
  have HJJ := Lib.hid HJ
  have H0 := Lib.hid h0
  have i1 : 1 ≤ (n : Int) := by omega
  have i2 : (n : Int) ≤ 33 := by omega
  have i3 : 1 ≤ (m : Int) := by omega
  have i4 : (m : Int) ≤ 33 := by omega
  have HE : Hid (∀ i j, i ≤ 64 → j ≤ 64 → 0 ≤ wt L M b i j ∧ wt L M b i j ≤ 4611686018427387904) := fun i j hi hj => ⟨wt_nn hs ht i j, wt_hi hs ht b0 i j hi hj⟩
  clear hs ht HJ h0 hz
  go_enter Tryz.func32, Tryz.ntmps32
  go_wp2_with fail
  go_at_call 54
  refine (border_ok A' c' m (by omega) _).mono ?_
  rintro e w1 ⟨p, rfl, hp1, hp2, hp3⟩
  have HP := Lib.hid hp2
  have HB1 := Lib.hid hp3
  have pz := hp2.lt
  clear hp2 hp3
  go_wp2_with fail
  go_at_call 54
  refine (border_ok A' c' m (by omega) _).mono ?_
  rintro e w2 ⟨q, rfl, hq1, hq2, hq3⟩
  have HQ := Lib.hid hq2
  have HB2 := Lib.hid (HB1.out.tr hq3)
  have HP2 := Lib.hid (HP.out.bel hq3)
  have hpq : p ≠ q := by omega
  have hsz := HB1.out.size
  have f0 := HP2.out.fr 0
  have m1' : ¬ m + 1 = 0 := by omega
  have HR0 : Hid (∃ (Zp Zq : List Int), Bk (w2.setCell ⟨p, 0, none⟩ (.int .i64 0)) p 3 (zs Zp).toArray ∧ Rw L M b 0 m Zp ∧ Bk (w2.setCell ⟨p, 0, none⟩ (.int .i64 0)) q 3 (zs Zq).toArray ∧ Zq.length = m + 1 ∧ J p q 0 (w2.setCell ⟨p, 0, none⟩ (.int .i64 0))) :=
    ⟨_, _, bk_set HP2.out 0 0, ⟨by simp, fun t ht => by
      rw [set_at]
      rcases t with _ | t
      · rw [if_pos (by simp), wt_00]
      · rw [if_neg (by simp), wt_0s, List.getD_eq_getElem?_getD, List.getElem?_replicate, if_pos (by omega)]; rfl⟩, HQ.out.far (by show q ≠ p; omega) _, by simp, H0.out _ _ _ (HB2.out.st (by show _ ≤ p; omega) _) (by omega) (by omega)⟩
  have c0 := bk_sz HP2.out (m := m) (t := 0) (by simp) (by omega)
  clear hq2 hq3 H0 HP HB1
  go_wp2
  go_loopw [8, 9, 20] (fun s8 s9 s20 wr => ∃ (i : Nat) (V : World) (p q : Nat) (Zp Zq : List Int), V = wr ∧ i ≤ n ∧ s8 = .slice (some ⟨p, 0, none⟩) (m + 1) (m + 1) ∧ s9 = .slice (some ⟨q, 0, none⟩) (m + 1) (m + 1) ∧ s20 = .int .i64 (i : Int) ∧ p ≠ q ∧ Bk wr p 3 (zs Zp).toArray ∧ Rw L M b i m Zp ∧ Bk wr q 3 (zs Zq).toArray ∧ Zq.length = m + 1 ∧ J p q i wr) (fun _ _ s20 _ => n - (intOf s20).toNat)
  case atStart =>
    obtain ⟨Zp, Zq, h1, h2, h3, h4, h5⟩ := HR0.out
    exact ⟨0, _, p, q, Zp, Zq, rfl, by omega, rfl, rfl, rfl, hpq, h1, h2, h3, h4, h5⟩
  case round =>
    clear HR0 HP2 HQ HB2 hpq hp1 hq1 pz hsz f0 c0
    obtain ⟨i, wr, p, q, Zp, Zq, hwr, hin, rfl, rfl, rfl, hpq, hp, hrp, hq, hlq, hj⟩ := hrel
    subst hwr
    have HHP := Lib.hid hp
    have HHQ := Lib.hid hq
    have HRP := Lib.hid hrp
    have HLQ := Lib.hid hlq
    have HHJ := Lib.hid hj
    rcases Nat.lt_or_ge i n with hlt | hge
    · obtain ⟨ad, rfl, _, hac⟩ := (HJJ.out.zi hj).1.2 (by omega)
      have px := HS.out.at i
      have HX : Hid (∀ {W}, J p q i W → W.cell? (ad.add i) = some (.int .i64 (L.getD i 0))) := fun h => by
        obtain ⟨ad', e, _, hh⟩ := (HJJ.out.zi h).1.2 (by omega)
        injection e with e
        subst e
        exact hh i hlt
      obtain ⟨x, hx⟩ : ∃ x, L.getD i 0 = x := ⟨_, rfl⟩
      rw [hx] at px HX
      obtain ⟨x0, x1⟩ := px
      have HXE := Lib.hid hx
      have q0 := hq.fr 0
      have cq := bk_sz hq hlq (t := 0) (by omega)
      obtain ⟨z0, hz0⟩ : ∃ z, Zq.getD 0 0 = z := ⟨_, rfl⟩
      rw [hz0] at cq
      have HR1 : Hid (∃ Z : List Int, Bk (wr.setCell ⟨q, 0, none⟩ (.int .i64 4611686018427387904)) q 3 (zs Z).toArray ∧ Z.length = m + 1 ∧ (∀ t, t ≤ 0 → Z.getD t 0 = wt L M b (i + 1) t) ∧ Bk (wr.setCell ⟨q, 0, none⟩ (.int .i64 4611686018427387904)) p 3 (zs Zp).toArray ∧ J p q i (wr.setCell ⟨q, 0, none⟩ (.int .i64 4611686018427387904))) :=
        ⟨_, bk_set hq 0 _, by simpa using hlq, fun t ht => by
          obtain rfl : t = 0 := by omega
          rw [set_at, if_pos ⟨rfl, by omega⟩, wt_s0]; rfl, hp.far (by show p ≠ q; exact hpq) _, HJJ.out.st 0 _ hj⟩
      have ini : (i : Int) < (n : Int) := by omega
      clear hp hq hrp hlq hj hac hx hz0
      go_wp2
      go_loopw [27] (fun s27 wr => ∃ (j : Nat) (V : World) (Z : List Int), V = wr ∧ j ≤ m ∧ s27 = .int .i64 (j : Int) ∧ Bk wr q 3 (zs Z).toArray ∧ Z.length = m + 1 ∧ (∀ t, t ≤ j → Z.getD t 0 = wt L M b (i + 1) t) ∧ Bk wr p 3 (zs Zp).toArray ∧ J p q i wr) (fun s27 _ => m - (intOf s27).toNat)
      case atStart =>
        obtain ⟨Z, h1, h2, h3, h4, h5⟩ := HR1.out
        exact ⟨0, _, Z, rfl, by omega, rfl, h1, h2, h3, h4, h5⟩
      case round =>
        clear HR1 q0 cq HHP HHQ HHJ
        obtain ⟨j, wr, Z, hwr, hjm, rfl, hq, hlz, hzt, hp, hj⟩ := hrel
        subst hwr
        rcases Nat.lt_or_ge j m with hlt2 | hge2
        · obtain ⟨ad', rfl, _, hac'⟩ := (HJJ.out.zi hj).2.2 (by omega)
          have py := HT.out.at j
          have HY : Hid (∀ {W}, J p q i W → W.cell? (ad'.add j) = some (.int .i64 (M.getD j 0))) := fun h => by
            obtain ⟨ad2, e, _, hh⟩ := (HJJ.out.zi h).2.2 (by omega)
            injection e with e
            subst e
            exact hh j hlt2
          obtain ⟨y, hy⟩ : ∃ y, M.getD j 0 = y := ⟨_, rfl⟩
          rw [hy] at py HY
          obtain ⟨y0, y1⟩ := py
          obtain ⟨j', hj'⟩ : ∃ j', j + 1 = j' := ⟨_, rfl⟩
          have hji : (j : Int) + 1 = (j' : Int) := by omega
          have j'm : j' ≤ m := by omega
          have j'k : j' < m + 1 := by omega
          have j'i : (j' : Int) < (m : Int) + 1 := by omega
          have j'i2 : (j' : Int) < ((m + 1 : Nat) : Int) := by omega
          have jk : j < m + 1 := by omega
          have jki : (j : Int) < (m : Int) + 1 := by omega
          have jki2 : (j : Int) < ((m + 1 : Nat) : Int) := by omega
          have ji : (j : Int) < (m : Int) := by omega
          have zj : -9223372036854775808 ≤ (j' : Int) ∧ (j' : Int) ≤ 9223372036854775807 := by omega
          have cz := bk_sz hq hlz (t := j') (by omega)
          have fz := hq.fr j'
          obtain ⟨z1, hz1⟩ : ∃ z, Z.getD j' 0 = z := ⟨_, rfl⟩
          rw [hz1] at cz
          obtain ⟨d0, hd0⟩ : ∃ d, (i : Int) - (j : Int) = d := ⟨_, rfl⟩
          have zd : -9223372036854775808 ≤ d0 ∧ d0 ≤ 9223372036854775807 := by omega
          have HAB : Hid (∀ W, _) := fun W => abs_ok d0 (by omega) (by omega) W
          have HBD : Hid (ab d0 ≤ b ↔ Bnd b i j) := by
            show _ ↔ _
            unfold ab Bnd
            split <;> constructor <;> intro h <;> (try constructor) <;> omega
          obtain ⟨r0, hr0⟩ : ∃ r, ab d0 = r := ⟨_, rfl⟩
          rw [hr0] at HAB HBD
          have HS1 : Hid (Bk (wr.setCell ⟨q, j', none⟩ (.int .i64 4611686018427387904)) q 3 (zs (Z.set j' 4611686018427387904)).toArray ∧ Bk (wr.setCell ⟨q, j', none⟩ (.int .i64 4611686018427387904)) p 3 (zs Zp).toArray ∧ J p q i (wr.setCell ⟨q, j', none⟩ (.int .i64 4611686018427387904))) :=
            ⟨bk_set hq _ _, hp.far (by show p ≠ q; exact hpq) _, HJJ.out.st _ _ hj⟩
          have HZT := Lib.hid hzt
          have HLZ := Lib.hid hlz
          have HIJ : Hid (j + 1 = j' ∧ M.getD j 0 = y) := ⟨hj', hy⟩
          have HD0 : Hid (ab d0 = r0 ∧ Z.getD j' 0 = z1) := ⟨hr0, hz1⟩
          have wj : wrap64 (j' : Int) = (j' : Int) := IntWalk.wrap64_in _ zj
          have wj2 : IntKind.i64.wrap (j' : Int) = (j' : Int) := IntWalk.i64_in _ zj
          have d0w : wrap64 d0 = d0 := IntWalk.wrap64_in _ zd
          have HZJ := Lib.hid zj
          clear hq hp hj hac' hzt hlz hj' hy hr0 hz1 zj zd
          go_wp2_with fail
          go_at_call 47
          refine (HAB.out _).mono ?_
          rintro e w9 ⟨rfl, hw9⟩
          have HS2 : Hid (Bk w9 q 3 (zs (Z.set j' 4611686018427387904)).toArray ∧ Bk w9 p 3 (zs Zp).toArray ∧ J p q i w9) := by
            rw [← hw9]
            first | exact HS1.out | exact ⟨HS1.out.1.drw, HS1.out.2.1.drw, HJJ.out.dr HS1.out.2.2⟩ | exact ⟨HS1.out.1.drwN _, HS1.out.2.1.drwN _, HJJ.out.dn _ HS1.out.2.2⟩
          clear HS1 hw9 cz fz wj wj2 d0w
          rcases Int.lt_or_le b r0 with hout | hinn
          · have HZ2 : Hid (∀ t, t ≤ j' → (Z.set j' 4611686018427387904).getD t 0 = wt L M b (i + 1) t) := fun t ht => by
              rw [set_at]
              rcases Nat.lt_or_ge t j' with h | h
              · rw [if_neg (by omega)]; exact HZT.out t (by have := HIJ.out.1; omega)
              · obtain rfl : t = j' := by omega
                rw [if_pos ⟨rfl, by have := HLZ.out; omega⟩, ← HIJ.out.1, wt_out _ _ _ _ _ (fun h => by have := HBD.out.2 h; omega)]; rfl
            go_wp2
            go_roundw
            case rel => exact ⟨j', _, _, rfl, j'm, by first | rfl | go_num, HS2.out.1, by rw [List.length_set]; exact HLZ.out, HZ2.out, HS2.out.2.1, HS2.out.2.2⟩
            case measure => simp [intOf]; omega
          · have hBB := HBD.out.1 hinn
            have ee := wt_in L M b i j hBB
            have k1 := bk_sz HS2.out.2.1 HRP.out.1 (t := j) (by omega)
            have k2 := bk_sz HS2.out.2.1 HRP.out.1 (t := j') j'm
            have k3 := bk_sz HS2.out.1 (by rw [List.length_set]; exact HLZ.out) (t := j) (by omega)
            have k4 := bk_sz HS2.out.1 (by rw [List.length_set]; exact HLZ.out) (t := j') j'm
            have k5 := HX.out HS2.out.2.2
            have k6 := HY.out HS2.out.2.2
            have fB := HS2.out.1.fr j'
            have b1 := HE.out i j (by omega) (by omega)
            have b2 := HE.out i j' (by omega) (by omega)
            have b3 := HE.out (i + 1) j (by omega) (by omega)
            rw [HRP.out.2 j (by omega)] at k1
            rw [HRP.out.2 j' j'm] at k2
            rw [set_at, if_neg (by have := HIJ.out.1; omega), HZT.out j (Nat.le_refl _)] at k3
            rw [set_at, if_pos ⟨rfl, by have := HLZ.out; omega⟩] at k4
            rw [HIJ.out.1] at ee
            have ec : cst L M i j = (x - y) * (x - y) := by unfold cst; rw [HXE.out, HIJ.out.2]
            rw [ec] at ee
            obtain ⟨a0, ha0⟩ : ∃ v, wt L M b i j = v := ⟨_, rfl⟩
            obtain ⟨e0, he0⟩ : ∃ v, wt L M b i j' = v := ⟨_, rfl⟩
            obtain ⟨g0, hg0⟩ : ∃ v, wt L M b (i + 1) j = v := ⟨_, rfl⟩
            rw [ha0] at k1 b1 ee
            rw [he0] at k2 b2 ee
            rw [hg0] at k3 b3 ee
            obtain ⟨d1, hd1⟩ : ∃ d, x - y = d := ⟨_, rfl⟩
            rw [hd1] at ee
            have hsq := sq_bd (B := 2000) (x := d1) (by omega) (by omega)
            have HSQ : Hid (∀ W, _) := fun W => square_ok d1 (by omega) (by omega) W
            obtain ⟨r1, hr1⟩ : ∃ r, d1 * d1 = r := ⟨_, rfl⟩
            rw [hr1] at HSQ hsq ee
            have hmn := mn3_if a0 e0 g0
            have hml := mn3_or a0 e0 g0
            have z1b : -9223372036854775808 ≤ d1 ∧ d1 ≤ 9223372036854775807 := by omega
            have HEE := Lib.hid ee
            have hne : j ≠ j' := by have := HIJ.out.1; omega
            have HLET := Lib.hid (And.intro ha0 (And.intro he0 (And.intro hg0 (And.intro hr1 hd0))))
            have hcase : (e0 < a0 ∧ g0 < e0 ∧ mn3 a0 e0 g0 = g0) ∨ (e0 < a0 ∧ e0 ≤ g0 ∧ mn3 a0 e0 g0 = e0) ∨ (a0 ≤ e0 ∧ g0 < a0 ∧ mn3 a0 e0 g0 = g0) ∨ (a0 ≤ e0 ∧ a0 ≤ g0 ∧ mn3 a0 e0 g0 = a0) := by
              rw [hmn]
              (repeat' split) <;> omega
            clear ha0 he0 hg0 hr1 hd0 ec hmn hml hBB
            rcases hcase with ⟨l1, l2, l3⟩ | ⟨l1, l2, l3⟩ | ⟨l1, l2, l3⟩ | ⟨l1, l2, l3⟩
            · rw [l3] at ee
              have HEQ := Lib.hid ee
              have z2b : -9223372036854775808 ≤ r1 + g0 ∧ r1 + g0 ≤ 9223372036854775807 := by omega
              have HZ2 : Hid (∀ t, t ≤ j' → ((Z.set j' 4611686018427387904).set j' (r1 + g0)).getD t 0 = wt L M b (i + 1) t) := fun t ht => by
                rw [set_at, set_at, List.length_set]
                rcases Nat.lt_or_ge t j' with h | h
                · rw [if_neg (by omega), if_neg (by omega)]; exact HZT.out t (by have := HIJ.out.1; omega)
                · obtain rfl : t = j' := by omega
                  rw [if_pos ⟨rfl, by have := HLZ.out; omega⟩]
                  exact HEQ.out.symm
              have w1 : IntKind.i64.wrap d1 = d1 := IntWalk.i64_in _ z1b
              have wj2 : IntKind.i64.wrap (j' : Int) = (j' : Int) := IntWalk.i64_in _ HZJ.out
              have w2 : IntKind.i64.wrap (r1 + g0) = r1 + g0 := IntWalk.i64_in _ z2b
              clear ee b1 b2 b3 hsq z1b z2b l3
              go_wp2
              go_region_held3 (fun w' => w'.cell? (ad.add i) = some (.int .i64 x) ∧ w'.cell? (ad'.add j) = some (.int .i64 y) ∧ w'.cell? ⟨p, j, none⟩ = some (.int .i64 a0) ∧ w'.cell? ⟨p, j', none⟩ = some (.int .i64 e0) ∧ w'.cell? ⟨q, j, none⟩ = some (.int .i64 g0))
                ((refine ⟨?_, ?_, ?_, ?_, ?_⟩) <;> (repeat (first | exact k1 | exact k2 | exact k3 | exact k5 | exact k6 | exact HX.out (by repeat (first | exact HS2.out.2.2 | (with_reducible refine HJJ.out.dn _ ?_) | (with_reducible refine HJJ.out.dr ?_) | (with_reducible refine HJJ.out.st _ _ ?_))) | exact HY.out (by repeat (first | exact HS2.out.2.2 | (with_reducible refine HJJ.out.dn _ ?_) | (with_reducible refine HJJ.out.dr ?_) | (with_reducible refine HJJ.out.st _ _ ?_))) | (with_reducible refine kp_drwN ?_ _) | (with_reducible refine kp_drw ?_) | (with_reducible refine kp_st ?_ hne _) | (with_reducible refine kp_fb ?_ hpq _))))
                (first | (go_at_call 55; refine (HSQ.out _).mono ?_; rintro e' w8 ⟨rfl, rfl⟩))
              all_goals
                have HS3 : Hid (Bk (w9.setCell ⟨q, j', none⟩ (.int .i64 (r1 + g0))) q 3 (zs ((Z.set j' 4611686018427387904).set j' (r1 + g0))).toArray ∧ Bk (w9.setCell ⟨q, j', none⟩ (.int .i64 (r1 + g0))) p 3 (zs Zp).toArray ∧ J p q i (w9.setCell ⟨q, j', none⟩ (.int .i64 (r1 + g0)))) :=
                  ⟨bk_set HS2.out.1 _ _, HS2.out.2.1.far (by show p ≠ q; exact hpq) _, HJJ.out.st _ _ HS2.out.2.2⟩
                go_wp2
                go_roundw
                case rel => exact ⟨j', _, _, rfl, j'm, by first | rfl | go_num, HS3.out.1.drw, by rw [List.length_set, List.length_set]; exact HLZ.out, HZ2.out, HS3.out.2.1.drw, HJJ.out.dr HS3.out.2.2⟩
                case measure => simp [intOf]; omega
            · rw [l3] at ee
              have HEQ := Lib.hid ee
              have z2b : -9223372036854775808 ≤ r1 + e0 ∧ r1 + e0 ≤ 9223372036854775807 := by omega
              have HZ2 : Hid (∀ t, t ≤ j' → ((Z.set j' 4611686018427387904).set j' (r1 + e0)).getD t 0 = wt L M b (i + 1) t) := fun t ht => by
                rw [set_at, set_at, List.length_set]
                rcases Nat.lt_or_ge t j' with h | h
                · rw [if_neg (by omega), if_neg (by omega)]; exact HZT.out t (by have := HIJ.out.1; omega)
                · obtain rfl : t = j' := by omega
                  rw [if_pos ⟨rfl, by have := HLZ.out; omega⟩]
                  exact HEQ.out.symm
              have w1 : IntKind.i64.wrap d1 = d1 := IntWalk.i64_in _ z1b
              have wj2 : IntKind.i64.wrap (j' : Int) = (j' : Int) := IntWalk.i64_in _ HZJ.out
              have w2 : IntKind.i64.wrap (r1 + e0) = r1 + e0 := IntWalk.i64_in _ z2b
              clear ee b1 b2 b3 hsq z1b z2b l3
              go_wp2
              go_region_held3 (fun w' => w'.cell? (ad.add i) = some (.int .i64 x) ∧ w'.cell? (ad'.add j) = some (.int .i64 y) ∧ w'.cell? ⟨p, j, none⟩ = some (.int .i64 a0) ∧ w'.cell? ⟨p, j', none⟩ = some (.int .i64 e0) ∧ w'.cell? ⟨q, j, none⟩ = some (.int .i64 g0))
                ((refine ⟨?_, ?_, ?_, ?_, ?_⟩) <;> (repeat (first | exact k1 | exact k2 | exact k3 | exact k5 | exact k6 | exact HX.out (by repeat (first | exact HS2.out.2.2 | (with_reducible refine HJJ.out.dn _ ?_) | (with_reducible refine HJJ.out.dr ?_) | (with_reducible refine HJJ.out.st _ _ ?_))) | exact HY.out (by repeat (first | exact HS2.out.2.2 | (with_reducible refine HJJ.out.dn _ ?_) | (with_reducible refine HJJ.out.dr ?_) | (with_reducible refine HJJ.out.st _ _ ?_))) | (with_reducible refine kp_drwN ?_ _) | (with_reducible refine kp_drw ?_) | (with_reducible refine kp_st ?_ hne _) | (with_reducible refine kp_fb ?_ hpq _))))
                (first | (go_at_call 55; refine (HSQ.out _).mono ?_; rintro e' w8 ⟨rfl, rfl⟩))
              all_goals
                have HS3 : Hid (Bk (w9.setCell ⟨q, j', none⟩ (.int .i64 (r1 + e0))) q 3 (zs ((Z.set j' 4611686018427387904).set j' (r1 + e0))).toArray ∧ Bk (w9.setCell ⟨q, j', none⟩ (.int .i64 (r1 + e0))) p 3 (zs Zp).toArray ∧ J p q i (w9.setCell ⟨q, j', none⟩ (.int .i64 (r1 + e0)))) :=
                  ⟨bk_set HS2.out.1 _ _, HS2.out.2.1.far (by show p ≠ q; exact hpq) _, HJJ.out.st _ _ HS2.out.2.2⟩
                go_wp2
                go_roundw
                case rel => exact ⟨j', _, _, rfl, j'm, by first | rfl | go_num, HS3.out.1.drw, by rw [List.length_set, List.length_set]; exact HLZ.out, HZ2.out, HS3.out.2.1.drw, HJJ.out.dr HS3.out.2.2⟩
                case measure => simp [intOf]; omega
            · rw [l3] at ee
              have HEQ := Lib.hid ee
              have z2b : -9223372036854775808 ≤ r1 + g0 ∧ r1 + g0 ≤ 9223372036854775807 := by omega
              have HZ2 : Hid (∀ t, t ≤ j' → ((Z.set j' 4611686018427387904).set j' (r1 + g0)).getD t 0 = wt L M b (i + 1) t) := fun t ht => by
                rw [set_at, set_at, List.length_set]
                rcases Nat.lt_or_ge t j' with h | h
                · rw [if_neg (by omega), if_neg (by omega)]; exact HZT.out t (by have := HIJ.out.1; omega)
                · obtain rfl : t = j' := by omega
                  rw [if_pos ⟨rfl, by have := HLZ.out; omega⟩]
                  exact HEQ.out.symm
              have w1 : IntKind.i64.wrap d1 = d1 := IntWalk.i64_in _ z1b
              have wj2 : IntKind.i64.wrap (j' : Int) = (j' : Int) := IntWalk.i64_in _ HZJ.out
              have w2 : IntKind.i64.wrap (r1 + g0) = r1 + g0 := IntWalk.i64_in _ z2b
              clear ee b1 b2 b3 hsq z1b z2b l3
              go_wp2
              go_region_held3 (fun w' => w'.cell? (ad.add i) = some (.int .i64 x) ∧ w'.cell? (ad'.add j) = some (.int .i64 y) ∧ w'.cell? ⟨p, j, none⟩ = some (.int .i64 a0) ∧ w'.cell? ⟨p, j', none⟩ = some (.int .i64 e0) ∧ w'.cell? ⟨q, j, none⟩ = some (.int .i64 g0))
                ((refine ⟨?_, ?_, ?_, ?_, ?_⟩) <;> (repeat (first | exact k1 | exact k2 | exact k3 | exact k5 | exact k6 | exact HX.out (by repeat (first | exact HS2.out.2.2 | (with_reducible refine HJJ.out.dn _ ?_) | (with_reducible refine HJJ.out.dr ?_) | (with_reducible refine HJJ.out.st _ _ ?_))) | exact HY.out (by repeat (first | exact HS2.out.2.2 | (with_reducible refine HJJ.out.dn _ ?_) | (with_reducible refine HJJ.out.dr ?_) | (with_reducible refine HJJ.out.st _ _ ?_))) | (with_reducible refine kp_drwN ?_ _) | (with_reducible refine kp_drw ?_) | (with_reducible refine kp_st ?_ hne _) | (with_reducible refine kp_fb ?_ hpq _))))
                (first | (go_at_call 55; refine (HSQ.out _).mono ?_; rintro e' w8 ⟨rfl, rfl⟩))
              all_goals
                have HS3 : Hid (Bk (w9.setCell ⟨q, j', none⟩ (.int .i64 (r1 + g0))) q 3 (zs ((Z.set j' 4611686018427387904).set j' (r1 + g0))).toArray ∧ Bk (w9.setCell ⟨q, j', none⟩ (.int .i64 (r1 + g0))) p 3 (zs Zp).toArray ∧ J p q i (w9.setCell ⟨q, j', none⟩ (.int .i64 (r1 + g0)))) :=
                  ⟨bk_set HS2.out.1 _ _, HS2.out.2.1.far (by show p ≠ q; exact hpq) _, HJJ.out.st _ _ HS2.out.2.2⟩
                go_wp2
                go_roundw
                case rel => exact ⟨j', _, _, rfl, j'm, by first | rfl | go_num, HS3.out.1.drw, by rw [List.length_set, List.length_set]; exact HLZ.out, HZ2.out, HS3.out.2.1.drw, HJJ.out.dr HS3.out.2.2⟩
                case measure => simp [intOf]; omega
            · rw [l3] at ee
              have HEQ := Lib.hid ee
              have z2b : -9223372036854775808 ≤ r1 + a0 ∧ r1 + a0 ≤ 9223372036854775807 := by omega
              have HZ2 : Hid (∀ t, t ≤ j' → ((Z.set j' 4611686018427387904).set j' (r1 + a0)).getD t 0 = wt L M b (i + 1) t) := fun t ht => by
                rw [set_at, set_at, List.length_set]
                rcases Nat.lt_or_ge t j' with h | h
                · rw [if_neg (by omega), if_neg (by omega)]; exact HZT.out t (by have := HIJ.out.1; omega)
                · obtain rfl : t = j' := by omega
                  rw [if_pos ⟨rfl, by have := HLZ.out; omega⟩]
                  exact HEQ.out.symm
              have w1 : IntKind.i64.wrap d1 = d1 := IntWalk.i64_in _ z1b
              have wj2 : IntKind.i64.wrap (j' : Int) = (j' : Int) := IntWalk.i64_in _ HZJ.out
              have w2 : IntKind.i64.wrap (r1 + a0) = r1 + a0 := IntWalk.i64_in _ z2b
              clear ee b1 b2 b3 hsq z1b z2b l3
              go_wp2
              go_region_held3 (fun w' => w'.cell? (ad.add i) = some (.int .i64 x) ∧ w'.cell? (ad'.add j) = some (.int .i64 y) ∧ w'.cell? ⟨p, j, none⟩ = some (.int .i64 a0) ∧ w'.cell? ⟨p, j', none⟩ = some (.int .i64 e0) ∧ w'.cell? ⟨q, j, none⟩ = some (.int .i64 g0))
                ((refine ⟨?_, ?_, ?_, ?_, ?_⟩) <;> (repeat (first | exact k1 | exact k2 | exact k3 | exact k5 | exact k6 | exact HX.out (by repeat (first | exact HS2.out.2.2 | (with_reducible refine HJJ.out.dn _ ?_) | (with_reducible refine HJJ.out.dr ?_) | (with_reducible refine HJJ.out.st _ _ ?_))) | exact HY.out (by repeat (first | exact HS2.out.2.2 | (with_reducible refine HJJ.out.dn _ ?_) | (with_reducible refine HJJ.out.dr ?_) | (with_reducible refine HJJ.out.st _ _ ?_))) | (with_reducible refine kp_drwN ?_ _) | (with_reducible refine kp_drw ?_) | (with_reducible refine kp_st ?_ hne _) | (with_reducible refine kp_fb ?_ hpq _))))
                (first | (go_at_call 55; refine (HSQ.out _).mono ?_; rintro e' w8 ⟨rfl, rfl⟩))
              all_goals
                have HS3 : Hid (Bk (w9.setCell ⟨q, j', none⟩ (.int .i64 (r1 + a0))) q 3 (zs ((Z.set j' 4611686018427387904).set j' (r1 + a0))).toArray ∧ Bk (w9.setCell ⟨q, j', none⟩ (.int .i64 (r1 + a0))) p 3 (zs Zp).toArray ∧ J p q i (w9.setCell ⟨q, j', none⟩ (.int .i64 (r1 + a0)))) :=
                  ⟨bk_set HS2.out.1 _ _, HS2.out.2.1.far (by show p ≠ q; exact hpq) _, HJJ.out.st _ _ HS2.out.2.2⟩
                go_wp2
                go_roundw
                case rel => exact ⟨j', _, _, rfl, j'm, by first | rfl | go_num, HS3.out.1.drw, by rw [List.length_set, List.length_set]; exact HLZ.out, HZ2.out, HS3.out.2.1.drw, HJJ.out.dr HS3.out.2.2⟩
                case measure => simp [intOf]; omega
        · obtain rfl : j = m := by omega
          have HHP := Lib.hid hp
          have HHQ := Lib.hid hq
          have HHJ := Lib.hid hj
          have HRQ : Hid (Rw L M b (i + 1) j Z) := ⟨hlz, hzt⟩
          clear hp hq hj hzt hlz
          go_wp2_with (go_at_fn K; refine (HJJ.out.call hlt HHJ.out hpq HHP.out HHQ.out HRQ.out).mono ?_; rintro e w4 ⟨rfl, hj4, hp4, hq4⟩)
          go_roundw
          case rel => exact ⟨i + 1, _, q, p, Z, Zp, rfl, by omega, rfl, rfl, by go_num, fun e => hpq e.symm, hq4, HRQ.out, hp4, HRP.out.1, HJJ.out.sw hj4⟩
          case measure => simp [intOf]; omega
    · obtain rfl : i = n := by omega
      clear hp hq hrp hlq hj
      go_wp2
      go_end0
      exact ⟨rfl, p, q, HHJ.out⟩
end Go.Proofs.YtpbnabibnkohdaaGreatDoor.Wa
namespace Go.Proofs.YtpbnabibnkohdaaGreatDoor.Wa
open Go.ChangeShapes Go.WideShapes Go.RowKit Wo Sr Wi Ed
set_option linter.unusedVariables false
theorem shown_d (A' : Option Addr) (c' m gy gd q : Nat) (v0 : Int) (Z : List Int) (hm : m ≤ 1000) (W : World) (hgy : Bk W gy 22 #[.slice A' m c']) (hgd : Bk W gd 3 #[.int .i64 v0]) (hq : Bk W q 3 (zs Z).toArray) (hl : Z.length = m + 1) (hne : q ≠ gd) (hne2 : gy ≠ gd) :
    Calls Tryz.prog 33 #[.slice (some ⟨q, 0, none⟩) (m + 1) (m + 1), .pointer (some ⟨gy, 0, none⟩), .pointer (some ⟨gd, 0, none⟩)] W fun e W' => e = .returned (.tuple #[]) ∧ Bk W' gd 3 #[.int .i64 (Z.getD m 0)] ∧ Ch gd W W' := by
  have c1 := hgy.cell 0
  have c2 := hgd.cell 0
  have c3 := bk_sz hq hl (t := m) (Nat.le_refl _)
  have fd := hgd.fr 0
  have mi : (m : Int) < (m : Int) + 1 := by omega
  have mi2 : (m : Int) < ((m + 1 : Nat) : Int) := by omega
  have mk : m < m + 1 := by omega
  obtain ⟨x, hx⟩ : ∃ x, Z.getD m 0 = x := ⟨_, rfl⟩
  rw [hx] at c3
  rw [hx]
  simp at c1 c2
  have HS := Lib.hid (And.intro (hgd.st 0 (.int .i64 x)) (Ch.rf.st (a := W) (g := gd) 0 (.int .i64 x)))
  clear hgy hgd hq hx
  go_enter Tryz.func33, Tryz.ntmps33
  go_wp2
  go_end0
  exact ⟨rfl, HS.out.1, HS.out.2⟩
/-- what stands while Distance's search goes on -/
def JD (w0 : World) (gy gd : Nat) (A' : Option Addr) (c' m : Nat) (L M : List Int) (b : Int) (p q i : Nat) (W : World) : Prop :=
  Bel w0 W ∧ gy ≠ gd ∧ w0.heap.size ≤ gd ∧ (w0.heap.size ≤ p ∧ p ≠ gy ∧ p ≠ gd) ∧ (w0.heap.size ≤ q ∧ q ≠ gy ∧ q ≠ gd) ∧ Bk W gy 22 #[.slice A' m c'] ∧ ∃ v, Bk W gd 3 #[.int .i64 v] ∧ (0 < i → v = wt L M b i m)
theorem shows_d (w0 : World) (gy gd : Nat) (A A' : Option Addr) (c' n m : Nat) (hm : m ≤ 1000) (L M : List Int) (b : Int) (h1 : Zi w0 A n L) (h2 : Zi w0 A' m M) :
    Shows A A' n m L M b 33 #[.pointer (some ⟨gy, 0, none⟩), .pointer (some ⟨gd, 0, none⟩)] (JD w0 gy gd A' c' m L M b) where
  zi h := ⟨h1.bel h.1, h2.bel h.1⟩
  sw := by
    rintro p q i W ⟨a1, a2, a3, a4, a5, a6⟩
    exact ⟨a1, a2, a3, a5, a4, a6⟩
  st := by
    rintro p q i W j u ⟨a1, a2, a3, a4, a5, a6, v, a7, a8⟩
    exact ⟨a1.st a5.1 _, a2, a3, a4, a5, a6.far (fun e => a5.2.1 e.symm) _, v, a7.far (fun e => a5.2.2 e.symm) _, a8⟩
  dr := by
    rintro p q i W ⟨a1, a2, a3, a4, a5, a6, v, a7, a8⟩
    exact ⟨a1.drw, a2, a3, a4, a5, a6.drw, v, a7.drw, a8⟩
  dn := by
    rintro p q i W k ⟨a1, a2, a3, a4, a5, a6, v, a7, a8⟩
    exact ⟨a1.drwN _, a2, a3, a4, a5, a6.drwN _, v, a7.drwN _, a8⟩
  call := by
    rintro p q i W Zp Zq hi ⟨a1, a2, a3, a4, a5, a6, v, a7, a8⟩ hpq hp hq hr
    refine (shown_d A' c' m gy gd q v Zq hm W a6 a7 hq hr.1 a5.2.2 a2).mono ?_
    rintro e W' ⟨rfl, h3, h4⟩
    exact ⟨rfl, ⟨Bel.ch a1 h4 a3, a2, a3, a4, a5, h4.bk a6 a2, _, h3, fun _ => hr.2 m (Nat.le_refl _)⟩, h4.bk hp a4.2.2, h4.bk hq a5.2.2⟩
theorem enters_d : ∀ args w, (callFunc 33 args).run Tryz.prog w = .ok (.enter 33 args) w := enters_of Tryz.func33 (by kernel_rfl) rfl
set_option maxHeartbeats 4000000 in
theorem distance_ok (A A' : Option Addr) (c c' n m : Nat) (L M : List Int) (b : Int) (n1 : 2 ≤ n) (n2 : n ≤ 32) (m1 : 2 ≤ m) (m2 : m ≤ 32) (b0 : 0 ≤ b) (b32 : b ≤ 32) (b1 : (n : Int) - (m : Int) ≤ b) (b2 : (m : Int) - (n : Int) ≤ b) (hs : Sam L) (ht : Sam M) (w : World) (h1 : Zi w A n L) (h2 : Zi w A' m M) :
    Calls Tryz.prog 12 #[.slice A n c, .slice A' m c', .int .i64 b] w fun e w' => e = .returned (.tuple #[.int .i64 (wt L M b n m), .int .i64 0]) ∧ Bel w w' := by
  have hmf : ∀ (fn : Fn) (first cap : Array Value) (w : World), (Instr.makeFunc fn first cap).run Tryz.prog w = .ok (.func fn first cap) w := fun _ _ _ _ => rfl
  have HW : Hid (∀ W, Bel w W → Calls Tryz.prog 31 #[.slice A n c, .slice A' m c', .int .i64 b] W fun e w' => e = .returned (.int .i64 0) ∧ Bel W w') := fun W hW => warped_ok A A' c c' n m L M b n1 n2 m1 m2 b0 b32 b1 b2 hs ht W (h1.bel hW) (h2.bel hW)
  have HB : Hid (Bk (w.alloc (.cells #[.slice A' m c'] 22)) w.heap.size 22 #[.slice A' m c']) := Bk.nw _ _ _
  have HS : Hid (∀ w2 : World, Bel (w.alloc (.cells #[.slice A' m c'] 22)) w2 → Calls Tryz.prog 32 #[.slice A n c, .slice A' m c', .int .i64 b, .func (.func 33) #[] #[.pointer (some ⟨w.heap.size, 0, none⟩), .pointer (some ⟨w2.heap.size, 0, none⟩)]] (w2.alloc (.cells #[.int .i64 0] 3)) fun e w' => e = .returned (.tuple #[]) ∧ Bel w w' ∧ Bk w' w2.heap.size 3 #[.int .i64 (wt L M b n m)]) := fun w2 hb2 => by
    have hz := hb2.size
    have hz2 : w.heap.size < w2.heap.size := by simp at hz; omega
    have hbw : Bel w w2 := (Bel.rf.al _).tr hb2
    refine (search_any A A' c c' n m L M b (by omega) (by omega) (by omega) (by omega) b0 b32 hs ht 33 _ (JD w w.heap.size w2.heap.size A' c' m L M b) enters_d (shows_d w w.heap.size w2.heap.size A A' c' n m (by omega) L M b h1 h2) _ (fun p q W hW hp hq => ?_) ((h2.bel hbw).bel (Bel.rf.al _))).mono ?_
    · simp at hp hq
      exact ⟨hbw.tr ((Bel.rf.al _).tr hW), by omega, by omega, ⟨by omega, by omega, by omega⟩, ⟨by omega, by omega, by omega⟩, (((Bk.nw _ _ _).bel hb2).al _).bel hW, 0, (Bk.nw _ _ _).bel hW, fun h => by omega⟩
    · rintro e w' ⟨rfl, p, q, a1, _, _, _, _, _, v, a7, a8⟩
      refine ⟨rfl, a1, ?_⟩
      rw [← a8 (by omega)]
      exact a7
  clear h1 h2 hs ht
  go_enter Tryz.func12, Tryz.ntmps12
  go_wp2_with fail
  go_at_call 31
  refine (HW.out _ (Bel.rf.al _)).mono ?_
  rintro e w2 ⟨rfl, hb2⟩
  have HB2 := Lib.hid hb2
  have c1 := (HB.out.bel hb2).cell 0
  simp at c1
  have c1x : ∀ o, (w2.alloc o).cell? ⟨w.heap.size, 0, none⟩ = some (.slice A' m c') := kp_al c1
  clear hb2
  go_wp2_with fail
  go_at_call 32
  refine (HS.out w2 HB2.out).mono ?_
  rintro e w3 ⟨rfl, hb3, hk3⟩
  have HB3 := Lib.hid hb3
  have c3 := hk3.cell 0
  simp at c3
  clear hb3 hk3 c1x
  go_wp2
  go_ret2
  exact ⟨rfl, HB3.out⟩
end Go.Proofs.YtpbnabibnkohdaaGreatDoor.Wa
