/- The contracts of shapesearchkeep.Near and Pair: a new list like another one; two new lists of one length. -/
import Derived.Test.YtkonknkoggfeaaaZi
import Derived.Test.YtkonknkoggfeaaaSrcLen
namespace Go.Proofs.Ytkonknkoggfeaaa.Sr
open Go.ChangeShapes Go.WideShapes Go.RowKit Wo Wi
set_option linter.unusedVariables false
/-- the first k numbers have been turned to others -/
def NI (n g h c : Nat) (w : World) (s21 : Value) (wr : World) : Prop := ∃ (k : Nat) (M : List Int) (V : World), V = wr ∧ k ≤ n ∧ s21 = .int .i64 (k : Int) ∧
  wr.ownsRow w.heap.size 3 1 (.slice (some ⟨h, 0, none⟩) n c) n (zs M) ∧ M.length = n ∧ Sam M ∧ Ok wr g ∧ Ch g w wr
theorem NI.drwN {n g h c : Nat} {w wr : World} {s : Value} (hh : NI n g h c w s wr) (q : Nat) : NI n g h c w s (wr.drewN q) := by
  obtain ⟨k, M, V, rfl, h1, h2, h3, h4, h5, h6, h7⟩ := hh
  exact ⟨k, M, _, rfl, h1, h2, own_bel h3 (Bel.rf.drwN q), h4, h5, h6.drwN q, h7.drwN q⟩
theorem sam_set {M : List Int} (h : Sam M) {y : Int} (h0 : -1000 ≤ y) (h1 : y ≤ 1000) (k : Nat) : Sam (M.set k y) := by
  intro x hx
  rcases List.mem_or_eq_of_mem_set hx with h' | rfl
  · exact h x h'
  · exact ⟨h0, h1⟩
theorem ni_step {n g h c k : Nat} {w wr w1 : World} {M : List Int} {y : Int} (hgB : g < w.heap.size) (hk : k < n) (hM : M.length = n) (hs : Sam M) (y0 : -1000 ≤ y) (y1 : y ≤ 1000)
    (hown : wr.ownsRow w.heap.size 3 1 (.slice (some ⟨h, 0, none⟩) n c) n (zs M)) (hB : w.heap.size ≤ h) (hcw : Ch g w wr) (ho1 : Ok w1 g) (hc1 : Ch g wr w1) :
    NI n g h c w (.int .i64 ((k : Int) + 1)) (w1.setCell ⟨h, k, none⟩ (.int .i64 y)) :=
  ⟨k + 1, M.set k y, _, rfl, by omega, by congr 1, own_set (own_ch hown hc1 hgB) y, by rw [List.length_set]; exact hM, sam_set hs y0 y1 k, ho1.st (by show g < h; omega) _, (hcw.tr hc1).st2 (by show _ ≤ h; exact hB) _⟩
set_option maxHeartbeats 16000000 in
set_option maxRecDepth 100000 in
theorem near_any (g : Nat) (A : Option Addr) (cx n : Nat) (L : List Int) (n1 : 1 ≤ n) (n2 : n ≤ 1000) (hs : Sam L) (w : World) (h : Ok w g) (hx : Zi w A n L) (hne : ∀ ad, A = some ad → ad.block ≠ g) :
    Calls Try.prog 41 #[.pointer (some ⟨g, 0, none⟩), .slice A n cx] w (SomeList g n w) := by
  obtain ⟨i0, hi0, hz0, hz1, hz2⟩ := info_parts info_int
  have HI := Lib.hid (And.intro hi0 (And.intro hz0 (And.intro hz1 hz2)))
  clear hi0 hz0 hz1 hz2
  obtain ⟨ad, rfl, hab, hac⟩ := id (hx.2 (by omega))
  have HX := Lib.hid hx
  have HNE := Lib.hid hne
  have HSL := Lib.hid hs
  have HGB := Lib.hid h.lt
  have HO0 := Lib.hid h
  have hl := hx.1
  have ni1 : 1 ≤ (n : Int) := by omega
  have ni2 : (n : Int) ≤ 1000 := by omega
  clear h hx hne hs hab hac
  go_enter Try.func41, Try.ntmps41
  go_wp2_with fail
  go_at_call 20
  refine (n_any g 7 (by decide) (by decide) _ HO0.out).mono ?_
  rintro e w1 ⟨kd, rfl, kd0, kd1, ho, hc⟩
  have HO1 := Lib.hid ho
  have HC1 := Lib.hid hc
  clear ho hc
  go_wp2_with fail
  go_at_call 16
  refine (range_any g (-20) 20 (by decide) (by decide) (by decide) _ HO1.out).mono ?_
  rintro e w2 ⟨b, rfl, b0, b1, ho, hc⟩
  have HO2 := Lib.hid ho
  have HC2 : Hid (Ch g w w2) := HC1.out.tr hc
  clear ho hc
  go_wp2_with fail
  go_at_call 16
  refine (range_any g 1 3 (by decide) (by decide) (by decide) _ HO2.out).mono ?_
  rintro e w3 ⟨kk, rfl, kk0, kk1, ho, hc⟩
  have HO3 := Lib.hid ho
  have HC3 : Hid (Ch g w w3) := HC2.out.tr hc
  have hgB := HGB.out
  have hsz := HC3.out.sz
  have HOW := Lib.hid (World.ownsRow_made (base := w.heap.size) (e := 3) (size := 1) w3 #[] 0 (by omega) (by unfold maxLen; omega) rfl)
  have HX3 := Lib.hid ((HX.out.ch HC3.out HNE.out).bel (Bel.rf.al (.cells #[] 3)))
  have HXC : Hid (∀ j u, (zs L)[j]? = some u → (w3.alloc (.cells #[] 3)).cell? (ad.add j) = some u) := by
    show ∀ j u, _
    intro j u hu
    have hj : j < L.length := by
      rcases Nat.lt_or_ge j L.length with h | h
      · exact h
      · rw [List.getElem?_eq_none (by rw [zs_len]; exact h)] at hu; cases hu
    obtain ⟨ad', e, _, hcc⟩ := HX3.out.2 (by omega)
    cases e
    rw [zs_at hj] at hu
    cases hu
    exact hcc j (by omega)
  have HZL : Hid ((zs L).length = n * 1) := by show _ = _; rw [zs_len]; omega
  have HZO : Hid (∀ u ∈ zs L, u.oneCell' = true) := by
    show ∀ u ∈ zs L, _
    intro u hu
    obtain ⟨x, _, rfl⟩ := List.mem_map.1 hu
    rfl
  clear ho hc
  go_wp2_with (at_builtin; refine wpList_append_lies _ (by rfl) _ _ 22 (by rfl) w.heap.size 3 i0 _ 1 8 Try.underlying22 HI.out.1 HI.out.2.1 HI.out.2.2.1 HI.out.2.2.2 (by rfl) (by omega) (.slice (some ⟨w3.heap.size, 0, none⟩) 0 0) 0 [] (by rfl) HOW.out ad n cx (zs L) (by rfl) HZL.out HXC.out HZO.out (by omega) (by unfold maxLen; omega) (by omega) (by simp; omega) (w3.heap.size + 1) (by simp) ?_; intro h c w5 hown4 hgrow hat hlt4; rw [Nat.zero_add] at hown4; rw [List.nil_append] at hown4)
  obtain ⟨hB, -⟩ := hown4.lt h rfl
  have HC5 : Hid (Ch g w w5) := ch_grown (HC3.out.al _) hgrow (fun q e => by have e2 : w3.heap.size = q := Option.some.inj e; omega)
  have HR0 : Hid (NI n g h c w (.int .i64 0) w5) := ⟨0, L, _, rfl, by omega, rfl, hown4, hl, HSL.out, ok_grown (HO3.out.bel (Bel.rf.al _)) hgrow (fun q e => by have e2 : w3.heap.size = q := Option.some.inj e; omega), HC5.out⟩
  have HZ5 : Hid (Zi w (some ad) n L) := HX.out
  clear hown4 hgrow hat hlt4 HOW HX3 HXC HZL HZO
  try simp only [Nat.zero_add]
  go_wp2
  go_loopw [21] (fun s21 wr => NI n g h c w s21 wr) (fun s21 _ => n - (intOf s21).toNat)
  case atStart => exact HR0.out
  case round =>
    clear HR0
    obtain ⟨k, M, wr, hwr, hk, rfl, hown, hM, hS, hog, hcw⟩ := hrel
    subst hwr
    have HO := Lib.hid hown
    have HM := Lib.hid hM
    have HS := Lib.hid hS
    have HG := Lib.hid hog
    have HCW := Lib.hid hcw
    rcases Nat.lt_or_ge k n with hlt | hge
    · have c1 := (own_zi hown hM).at k hlt
      have f1 := own_fr hown k
      have pu := HS.out.at k
      obtain ⟨u, hu⟩ : ∃ u, M.getD k 0 = u := ⟨_, rfl⟩
      rw [hu] at c1 pu
      obtain ⟨u0, u1⟩ := pu
      obtain ⟨ad', e', _, hac⟩ := (HX.out.ch hcw HNE.out).2 (by omega)
      cases e'
      have px := fun j => HSL.out.at j
      have PX := Lib.hid px
      have HAC := Lib.hid hac
      have ki : (k : Int) < (n : Int) := by omega
      clear hown hM hS hog hcw hu px hac
      rcases (show kd = 0 ∨ kd = 1 ∨ kd = 2 ∨ kd = 3 ∨ kd = 4 ∨ kd = 5 ∨ kd = 6 by omega) with rfl | rfl | rfl | rfl | rfl | rfl | rfl
      · go_wp2
        go_roundw
        case rel => exact ⟨k + 1, M, _, rfl, by omega, by go_num, HO.out, HM.out, HS.out, HG.out, HCW.out⟩
        case measure => simp [intOf]; omega
      · go_wp2
        go_region_with (first
          | (go_at_call 16; refine (range_any g (-2) 2 (by decide) (by decide) (by decide) _ (by repeat (first | exact HG.out | refine Ok.drwN ?_ _))).mono ?_; rintro e w6 ⟨y, rfl, y0, y1, ho, hc⟩; have hc6 : Ch g wr w6 := (by repeat (first | exact hc | refine Ch.tr ?_ hc | exact Ch.rf.drwN _ | exact Ch.rf.drw)); have c2 : w6.cell? ⟨h, k, none⟩ = some (.int .i64 u) := hc6.kp c1 (by show h ≠ g; omega); have f2 : w6.frozen? ⟨h, k, none⟩ = false := own_fr (own_ch HO.out hc6 hgB) k; have wq : IntKind.i64.wrap (u + y) = u + y := IntWalk.i64_in _ (by omega); have HO6 := Lib.hid ho; have HC6 := Lib.hid hc6; clear ho hc hc6)
          | (go_at_call 57; refine (clip_any (u + y) (by omega) (by omega) _).mono ?_; rintro e w7 ⟨⟨z, rfl, z0, z1⟩, rfl⟩))
        all_goals
          go_wp2
          go_roundw
          case rel =>
            have hst := ni_step hgB hlt HM.out HS.out z0 z1 HO.out hB HCW.out HO6.out HC6.out
            first | exact hst | exact hst.drwN _ | exact hst.drwN 1
          case measure => simp [intOf]; omega
      · go_wp2_with (go_at_call 57; refine (clip_any (u + b) (by omega) (by omega) _).mono ?_; rintro e w7 ⟨⟨z, rfl, z0, z1⟩, rfl⟩)
        go_roundw
        case rel => exact ni_step hgB hlt HM.out HS.out z0 z1 HO.out hB HCW.out HG.out Ch.rf
        case measure => simp [intOf]; omega
      · rcases (show kk = 1 ∨ kk = 2 ∨ kk = 3 by omega) with rfl | rfl | rfl
        · go_wp2_with (go_at_call 57; refine (clip_any (u + b) (by omega) (by omega) _).mono ?_; rintro e w7 ⟨⟨z, rfl, z0, z1⟩, rfl⟩)
          go_roundw
          case rel => exact ni_step hgB hlt HM.out HS.out z0 z1 HO.out hB HCW.out HG.out Ch.rf
          case measure => simp [intOf]; omega
        · go_wp2_with (go_at_call 57; refine (clip_any (u * 2 + b) (by omega) (by omega) _).mono ?_; rintro e w7 ⟨⟨z, rfl, z0, z1⟩, rfl⟩)
          go_roundw
          case rel => exact ni_step hgB hlt HM.out HS.out z0 z1 HO.out hB HCW.out HG.out Ch.rf
          case measure => simp [intOf]; omega
        · go_wp2_with (go_at_call 57; refine (clip_any (u * 3 + b) (by omega) (by omega) _).mono ?_; rintro e w7 ⟨⟨z, rfl, z0, z1⟩, rfl⟩)
          go_roundw
          case rel => exact ni_step hgB hlt HM.out HS.out z0 z1 HO.out hB HCW.out HG.out Ch.rf
          case measure => simp [intOf]; omega
      · obtain ⟨j, hj⟩ : ∃ j, n - 1 - k = j := ⟨_, rfl⟩
        have hji : (n : Int) - 1 - (k : Int) = (j : Int) := by omega
        have hjn : (j : Int) < (n : Int) := by omega
        have c3 := HAC.out j (by omega)
        obtain ⟨v, hv⟩ : ∃ v, L.getD j 0 = v := ⟨_, rfl⟩
        have pv := PX.out j
        rw [hv] at c3 pv
        obtain ⟨v0, v1⟩ := pv
        clear hv hj
        go_wp2
        go_roundw
        case rel => exact ni_step hgB hlt HM.out HS.out v0 v1 HO.out hB HCW.out HG.out Ch.rf
        case measure => simp [intOf]; omega
      · go_wp2_with fail
        go_at_call 16
        refine (range_any g (-1) 1 (by decide) (by decide) (by decide) _ HG.out).mono ?_
        rintro e w6 ⟨y, rfl, y0, y1, ho, hc⟩
        have HO6 := Lib.hid ho
        have HC6 := Lib.hid hc
        have m0 := Int.emod_nonneg ((k : Int) + y) (b := (n : Int)) (by omega)
        have m1 := Int.emod_lt_of_pos ((k : Int) + y) (b := (n : Int)) (by omega)
        have HMD : Hid (∀ W, Calls Try.prog 8 #[.int .i64 ((k : Int) + y), .int .i64 (n : Int)] W fun e w' => e = .returned (.int .i64 (((k : Int) + y) % (n : Int))) ∧ W = w') := fun W => mod_any _ _ (by omega) (by omega) (by omega) (by omega) W
        obtain ⟨j, hj⟩ := Int.eq_ofNat_of_zero_le m0
        rw [hj] at m1 HMD
        have c3 := hc.kp (HAC.out j (by omega)) (by rw [add_block]; exact HNE.out ad rfl)
        obtain ⟨v, hv⟩ : ∃ v, L.getD j 0 = v := ⟨_, rfl⟩
        have pv := PX.out j
        rw [hv] at c3 pv
        obtain ⟨v0, v1⟩ := pv
        have c2 : w6.cell? ⟨h, k, none⟩ = some (.int .i64 u) := hc.kp c1 (by show h ≠ g; omega)
        have f2 : w6.frozen? ⟨h, k, none⟩ = false := own_fr (own_ch HO.out hc hgB) k
        clear ho hc hj hv m0
        go_wp2_with (go_at_call 8; refine (HMD.out _).mono ?_; rintro e w7 ⟨rfl, rfl⟩)
        go_roundw
        case rel => exact ni_step hgB hlt HM.out HS.out v0 v1 HO.out hB HCW.out HO6.out HC6.out
        case measure => simp [intOf]; omega
      · rcases (show kk = 1 ∨ kk = 2 ∨ kk = 3 by omega) with rfl | rfl | rfl
        · go_wp2_with (go_at_call 57; refine (clip_any (b - u) (by omega) (by omega) _).mono ?_; rintro e w7 ⟨⟨z, rfl, z0, z1⟩, rfl⟩)
          go_roundw
          case rel => exact ni_step hgB hlt HM.out HS.out z0 z1 HO.out hB HCW.out HG.out Ch.rf
          case measure => simp [intOf]; omega
        · go_wp2_with (go_at_call 57; refine (clip_any (b - u * 2) (by omega) (by omega) _).mono ?_; rintro e w7 ⟨⟨z, rfl, z0, z1⟩, rfl⟩)
          go_roundw
          case rel => exact ni_step hgB hlt HM.out HS.out z0 z1 HO.out hB HCW.out HG.out Ch.rf
          case measure => simp [intOf]; omega
        · go_wp2_with (go_at_call 57; refine (clip_any (b - u * 3) (by omega) (by omega) _).mono ?_; rintro e w7 ⟨⟨z, rfl, z0, z1⟩, rfl⟩)
          go_roundw
          case rel => exact ni_step hgB hlt HM.out HS.out z0 z1 HO.out hB HCW.out HG.out Ch.rf
          case measure => simp [intOf]; omega
    · obtain rfl : k = n := by omega
      clear hown hM hS hog hcw
      go_wp2
      go_ret
      exact ⟨_, M, rfl, HO.out, HM.out, HS.out, HG.out, HCW.out⟩
def SomePair (g : Nat) (w : World) (e : Ending) (w' : World) : Prop := ∃ (a b c d n : Nat) (L M : List Int), e = .returned (.tuple #[.slice (some ⟨a, 0, none⟩) n b, .slice (some ⟨c, 0, none⟩) n d]) ∧ 2 ≤ n ∧ n ≤ 32 ∧ a < c ∧
  w'.ownsRow w.heap.size 3 1 (.slice (some ⟨a, 0, none⟩) n b) n (zs L) ∧ w'.ownsRow w.heap.size 3 1 (.slice (some ⟨c, 0, none⟩) n d) n (zs M) ∧ L.length = n ∧ M.length = n ∧ Sam L ∧ Sam M ∧ Ok w' g ∧ Ch g w w'
set_option maxHeartbeats 4000000 in
theorem pair_any (g : Nat) (w : World) (h : Ok w g) : Calls Try.prog 19 #[.pointer (some ⟨g, 0, none⟩)] w (SomePair g w) := by
  have HGB := Lib.hid h.lt
  have HO0 := Lib.hid h
  clear h
  go_enter Try.func19, Try.ntmps19
  go_wp2_with fail
  go_at_call 40
  refine (length_any g _ HO0.out).mono ?_
  rintro e w1 ⟨n0, rfl, n1, n2, ho, hc⟩
  obtain ⟨n, rfl⟩ := Int.eq_ofNat_of_zero_le (show 0 ≤ n0 by omega)
  have HO1 := Lib.hid ho
  have HC1 := Lib.hid hc
  clear ho hc
  go_wp2_with fail
  go_at_call 39
  refine (list_any g n (by omega) _ HO1.out).mono ?_
  rintro e w2 ⟨v, L, rfl, hown, hL, hS, ho, hc⟩
  obtain ⟨a, b, rfl, hcap, ha⟩ := row_form hown (by omega)
  have HO2 := Lib.hid ho
  have HC2 := Lib.hid (HC1.out.tr hc)
  have HOA := Lib.hid hown
  have HL := Lib.hid hL
  have HS := Lib.hid hS
  have hga : g < a := by have := HGB.out; have := HC1.out.sz; omega
  have ha2 := (hown.lt a rfl).2
  clear ho hc hown hL hS
  go_wp2_with fail
  go_at_call 20
  refine (n_any g 3 (by decide) (by decide) _ HO2.out).mono ?_
  rintro e w3 ⟨x, rfl, x0, x1, ho, hc⟩
  have HO3 := Lib.hid ho
  have HC3 := Lib.hid (HC2.out.tr hc)
  have hz3 := hc.sz
  have HOA3 := Lib.hid (own_ch HOA.out hc (by have := HGB.out; have := HC1.out.sz; omega))
  clear ho hc
  rcases (show x = 0 ∨ x ≠ 0 by omega) with rfl | hx
  · go_wp2_with (go_at_call 39; refine (list_any g n (by omega) _ HO3.out).mono ?_; rintro e w4 ⟨v, M, rfl, hown, hM, hS, ho, hc⟩; obtain ⟨a', b', rfl, hcap', ha'⟩ := row_form hown (by omega))
    go_ret2
    exact ⟨a, b, a', b', n, L, M, rfl, by omega, by omega, by omega, (own_ch HOA3.out hc (by have := HGB.out; have := HC1.out.sz; omega)).mono HC1.out.sz, hown.mono HC3.out.sz, HL.out, hM, HS.out, hS, ho, HC3.out.tr hc⟩
  · go_wp2_with (go_at_call 41; refine (near_any g (some ⟨a, 0, none⟩) b n L (by omega) (by omega) HS.out _ HO3.out (own_zi HOA3.out HL.out) (fun ad e => by cases e; show a ≠ g; omega)).mono ?_; rintro e w4 ⟨v, M, rfl, hown, hM, hS, ho, hc⟩; obtain ⟨a', b', rfl, hcap', ha'⟩ := row_form hown (by omega))
    go_ret2
    exact ⟨a, b, a', b', n, L, M, rfl, by omega, by omega, by omega, (own_ch HOA3.out hc (by have := HGB.out; have := HC1.out.sz; omega)).mono HC1.out.sz, hown.mono HC3.out.sz, HL.out, hM, HS.out, hS, ho, HC3.out.tr hc⟩
end Go.Proofs.Ytkonknkoggfeaaa.Sr
