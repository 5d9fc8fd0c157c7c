/- The contract of warp.search, whatever function it shows the rows to. -/
import Derived.Test.YtabmpnmhjdbdmaaGreatDoorWarp2
import Derived.Test.YtabmpnmhjdbdmaaGreatDoorWarpMath
import Derived.Shelf.Abstract
namespace Go.Proofs.YtabmpnmhjdbdmaaGreatDoor.Wa
open Go.ChangeShapes Go.WideShapes Go.RowKit Wo Sr Wi Ed
set_option linter.unusedVariables false
/-- a row of the table -/
def Rw (L M : List Int) (b : Int) (i m : Nat) (Z : List Int) : Prop := Z.length = m + 1 ∧ ∀ t, t ≤ m → Z.getD t 0 = wt L M b i t
theorem mn3_if (a b c : Int) : mn3 a b c = (if c < if b < a then b else a then c else if b < a then b else a) := by
  unfold mn3 mn
  (repeat' split) <;> omega
theorem set_at (A : List Int) (k i : Nat) (y : Int) : (A.set k y).getD i 0 = if i = k ∧ i < A.length then y else A.getD i 0 := by
  rw [List.getD_eq_getElem?_getD, List.getD_eq_getElem?_getD, List.getElem?_set]
  rcases Classical.em (k = i) with rfl | h
  · rcases Nat.lt_or_ge k A.length with h2 | h2
    · simp [h2]
    · simp [Nat.not_lt.2 h2]
  · rw [if_neg h, if_neg (by omega)]
theorem bk_sz {w : World} {q m : Nat} {Z : List Int} (h : Bk w q 3 (zs Z).toArray) (hl : Z.length = m + 1) {t : Nat} (ht : t ≤ m) : w.cell? ⟨q, t, none⟩ = some (.int .i64 (Z.getD t 0)) := by
  rw [h.cell]
  simpa using zs_at (show t < Z.length by omega)
theorem bk_set {w : World} {q : Nat} {Z : List Int} (h : Bk w q 3 (zs Z).toArray) (t : Nat) (y : Int) : Bk (w.setCell ⟨q, t, none⟩ (.int .i64 y)) q 3 (zs (Z.set t y)).toArray := by
  have := h.st t (.int .i64 y)
  rwa [show ((zs Z).toArray.setIfInBounds t (.int .i64 y)) = (zs (Z.set t y)).toArray by simp [zs, List.map_set]] at this
/-- what the shown rows are handed to keeps -/
structure Shows (A A' : Option Addr) (n m : Nat) (L M : List Int) (b : Int) (K : FuncId) (caps : Array Value) (J : Nat → Nat → Nat → World → Prop) : Prop where
  zi : ∀ {p q i : Nat} {W : World}, J p q i W → Zi W A n L ∧ Zi W A' m M
  sw : ∀ {p q i : Nat} {W : World}, J p q i W → J q p i W
  st : ∀ {p q i : Nat} {W : World} (j : Nat) (u : Value), J p q i W → J p q i (W.setCell ⟨q, j, none⟩ u)
  dr : ∀ {p q i : Nat} {W : World}, J p q i W → J p q i W.drew
  dn : ∀ {p q i : Nat} {W : World} (k : Nat), J p q i W → J p q i (W.drewN k)
  call : ∀ {p q i : Nat} {W : World} {Zp Zq : List Int}, i < n → J p q i W → p ≠ q → Bk W p 3 (zs Zp).toArray → Bk W q 3 (zs Zq).toArray → Rw L M b (i + 1) m Zq →
    Calls Tryz.prog K (#[.slice (some ⟨q, 0, none⟩) (m + 1) (m + 1)] ++ caps) W fun e W' => e = .returned (.tuple #[]) ∧ J p q (i + 1) W' ∧ Bk W' p 3 (zs Zp).toArray ∧ Bk W' q 3 (zs Zq).toArray
theorem kp_st {W : World} {b i j : Nat} {v : Value} (h : W.cell? ⟨b, i, none⟩ = some v) (hne : i ≠ j) (u : Value) : (W.setCell ⟨b, j, none⟩ u).cell? ⟨b, i, none⟩ = some v :=
  (World.cell?_setCell_other _ _ _ _ (fun e => by have := congrArg Addr.off e; simp at this; omega)).trans h
theorem kp_fb {W : World} {a b i j : Nat} {v : Value} (h : W.cell? ⟨a, i, none⟩ = some v) (hne : a ≠ b) (u : Value) : (W.setCell ⟨b, j, none⟩ u).cell? ⟨a, i, none⟩ = some v :=
  (World.cell?_setCell_other _ _ _ _ (fun e => by have := congrArg Addr.block e; simp at this; omega)).trans h
set_option maxHeartbeats 8000000 in
set_option maxRecDepth 100000 in
theorem search_any (A A' : Option Addr) (c c' n m : Nat) (L M : List Int) (b : Int) (n1 : 1 ≤ n) (n2 : n ≤ 33) (m1 : 1 ≤ m) (m2 : m ≤ 33) (b0 : 0 ≤ b) (b32 : b ≤ 32) (hs : Sam L) (ht : Sam M) (K : FuncId) (caps : Array Value) (J : Nat → Nat → Nat → World → Prop)
    (eK : ∀ args w, (callFunc K args).run Tryz.prog w = .ok (.enter K args) w) (HJ : Shows A A' n m L M b K caps J) (w : World) (h0 : ∀ p q W, Bel w W → w.heap.size ≤ p → w.heap.size ≤ q → J p q 0 W) (hz : Zi w A' m M) :
    Calls Tryz.prog 52 #[.slice A n c, .slice A' m c', .int .i64 b, .func (.func K) #[] caps] w fun e w' => e = .returned (.tuple #[]) ∧ ∃ p q, J p q n w' := by
  have HS := Lib.hid hs
  have HT := Lib.hid ht
  have HJJ := Lib.hid HJ
  have H0 := Lib.hid h0
  have i1 : 1 ≤ (n : Int) := by omega
  have i2 : (n : Int) ≤ 33 := by omega
  have i3 : 1 ≤ (m : Int) := by omega
  have i4 : (m : Int) ≤ 33 := by omega
  have HE : Hid (∀ i j, i ≤ 64 → j ≤ 64 → 0 ≤ wt L M b i j ∧ wt L M b i j ≤ 4611686018427387904) := fun i j hi hj => ⟨wt_nn hs ht i j, wt_hi hs ht b0 i j hi hj⟩
  clear hs ht HJ h0 hz
  go_enter Tryz.func52, Tryz.ntmps52
  go_wp2_with fail
  go_at_call 67
  refine (border_ok A' c' m (by omega) _).mono ?_
  rintro e w1 ⟨p, rfl, hp1, hp2, hp3⟩
  have HP := Lib.hid hp2
  have HB1 := Lib.hid hp3
  have pz := hp2.lt
  clear hp2 hp3
  go_wp2_with fail
  go_at_call 67
  refine (border_ok A' c' m (by omega) _).mono ?_
  rintro e w2 ⟨q, rfl, hq1, hq2, hq3⟩
  have HQ := Lib.hid hq2
  have HB2 := Lib.hid (HB1.out.tr hq3)
  have HP2 := Lib.hid (HP.out.bel hq3)
  have hpq : p ≠ q := by omega
  have hsz := HB1.out.size
  have f0 := HP2.out.fr 0
  have m1' : ¬ m + 1 = 0 := by omega
  have HR0 : Hid (∃ (Zp Zq : List Int), Bk (w2.setCell ⟨p, 0, none⟩ (.int .i64 0)) p 3 (zs Zp).toArray ∧ Rw L M b 0 m Zp ∧ Bk (w2.setCell ⟨p, 0, none⟩ (.int .i64 0)) q 3 (zs Zq).toArray ∧ Zq.length = m + 1 ∧ J p q 0 (w2.setCell ⟨p, 0, none⟩ (.int .i64 0))) :=
    ⟨_, _, bk_set HP2.out 0 0, ⟨by simp, fun t ht => by
      rw [set_at]
      rcases t with _ | t
      · rw [if_pos (by simp), wt_00]
      · rw [if_neg (by simp), wt_0s, List.getD_eq_getElem?_getD, List.getElem?_replicate, if_pos (by omega)]; rfl⟩, HQ.out.far (by show q ≠ p; omega) _, by simp, H0.out _ _ _ (HB2.out.st (by show _ ≤ p; omega) _) (by omega) (by omega)⟩
  have c0 := bk_sz HP2.out (m := m) (t := 0) (by simp) (by omega)
  clear hq2 hq3 H0 HP HB1
  go_wp2
  go_loopw [8, 9, 20] (fun s8 s9 s20 wr => ∃ (i : Nat) (V : World) (p q : Nat) (Zp Zq : List Int), V = wr ∧ i ≤ n ∧ s8 = .slice (some ⟨p, 0, none⟩) (m + 1) (m + 1) ∧ s9 = .slice (some ⟨q, 0, none⟩) (m + 1) (m + 1) ∧ s20 = .int .i64 (i : Int) ∧ p ≠ q ∧ Bk wr p 3 (zs Zp).toArray ∧ Rw L M b i m Zp ∧ Bk wr q 3 (zs Zq).toArray ∧ Zq.length = m + 1 ∧ J p q i wr) (fun _ _ s20 _ => n - (intOf s20).toNat)
  case atStart =>
    obtain ⟨Zp, Zq, h1, h2, h3, h4, h5⟩ := HR0.out
    exact ⟨0, _, p, q, Zp, Zq, rfl, by omega, rfl, rfl, rfl, hpq, h1, h2, h3, h4, h5⟩
  case round =>
    clear HR0 HP2 HQ HB2 hpq hp1 hq1 pz hsz f0 c0
    obtain ⟨i, wr, p, q, Zp, Zq, hwr, hin, rfl, rfl, rfl, hpq, hp, hrp, hq, hlq, hj⟩ := hrel
    subst hwr
    have HHP := Lib.hid hp
    have HHQ := Lib.hid hq
    have HRP := Lib.hid hrp
    have HLQ := Lib.hid hlq
    have HHJ := Lib.hid hj
    rcases Nat.lt_or_ge i n with hlt | hge
    · obtain ⟨ad, rfl, _, hac⟩ := (HJJ.out.zi hj).1.2 (by omega)
      have px := HS.out.at i
      have HX : Hid (∀ {W}, J p q i W → W.cell? (ad.add i) = some (.int .i64 (L.getD i 0))) := fun h => by
        obtain ⟨ad', e, _, hh⟩ := (HJJ.out.zi h).1.2 (by omega)
        injection e with e
        subst e
        exact hh i hlt
      obtain ⟨x, hx⟩ : ∃ x, L.getD i 0 = x := ⟨_, rfl⟩
      rw [hx] at px HX
      obtain ⟨x0, x1⟩ := px
      have HXE := Lib.hid hx
      have q0 := hq.fr 0
      have cq := bk_sz hq hlq (t := 0) (by omega)
      obtain ⟨z0, hz0⟩ : ∃ z, Zq.getD 0 0 = z := ⟨_, rfl⟩
      rw [hz0] at cq
      have HR1 : Hid (∃ Z : List Int, Bk (wr.setCell ⟨q, 0, none⟩ (.int .i64 4611686018427387904)) q 3 (zs Z).toArray ∧ Z.length = m + 1 ∧ (∀ t, t ≤ 0 → Z.getD t 0 = wt L M b (i + 1) t) ∧ Bk (wr.setCell ⟨q, 0, none⟩ (.int .i64 4611686018427387904)) p 3 (zs Zp).toArray ∧ J p q i (wr.setCell ⟨q, 0, none⟩ (.int .i64 4611686018427387904))) :=
        ⟨_, bk_set hq 0 _, by simpa using hlq, fun t ht => by
          obtain rfl : t = 0 := by omega
          rw [set_at, if_pos ⟨rfl, by omega⟩, wt_s0]; rfl, hp.far (by show p ≠ q; exact hpq) _, HJJ.out.st 0 _ hj⟩
      have ini : (i : Int) < (n : Int) := by omega
      clear hp hq hrp hlq hj hac hx hz0
      go_wp2
      go_loopw [27] (fun s27 wr => ∃ (j : Nat) (V : World) (Z : List Int), V = wr ∧ j ≤ m ∧ s27 = .int .i64 (j : Int) ∧ Bk wr q 3 (zs Z).toArray ∧ Z.length = m + 1 ∧ (∀ t, t ≤ j → Z.getD t 0 = wt L M b (i + 1) t) ∧ Bk wr p 3 (zs Zp).toArray ∧ J p q i wr) (fun s27 _ => m - (intOf s27).toNat)
      case atStart =>
        obtain ⟨Z, h1, h2, h3, h4, h5⟩ := HR1.out
        exact ⟨0, _, Z, rfl, by omega, rfl, h1, h2, h3, h4, h5⟩
      case round =>
        clear HR1 q0 cq HHP HHQ HHJ
        obtain ⟨j, wr, Z, hwr, hjm, rfl, hq, hlz, hzt, hp, hj⟩ := hrel
        subst hwr
        rcases Nat.lt_or_ge j m with hlt2 | hge2
        · obtain ⟨ad', rfl, _, hac'⟩ := (HJJ.out.zi hj).2.2 (by omega)
          have py := HT.out.at j
          have HY : Hid (∀ {W}, J p q i W → W.cell? (ad'.add j) = some (.int .i64 (M.getD j 0))) := fun h => by
            obtain ⟨ad2, e, _, hh⟩ := (HJJ.out.zi h).2.2 (by omega)
            injection e with e
            subst e
            exact hh j hlt2
          obtain ⟨y, hy⟩ : ∃ y, M.getD j 0 = y := ⟨_, rfl⟩
          rw [hy] at py HY
          obtain ⟨y0, y1⟩ := py
          obtain ⟨j', hj'⟩ : ∃ j', j + 1 = j' := ⟨_, rfl⟩
          have hji : (j : Int) + 1 = (j' : Int) := by omega
          have j'm : j' ≤ m := by omega
          have j'k : j' < m + 1 := by omega
          have j'i : (j' : Int) < (m : Int) + 1 := by omega
          have j'i2 : (j' : Int) < ((m + 1 : Nat) : Int) := by omega
          have jk : j < m + 1 := by omega
          have jki : (j : Int) < (m : Int) + 1 := by omega
          have jki2 : (j : Int) < ((m + 1 : Nat) : Int) := by omega
          have ji : (j : Int) < (m : Int) := by omega
          have zj : -9223372036854775808 ≤ (j' : Int) ∧ (j' : Int) ≤ 9223372036854775807 := by omega
          have cz := bk_sz hq hlz (t := j') (by omega)
          have fz := hq.fr j'
          obtain ⟨z1, hz1⟩ : ∃ z, Z.getD j' 0 = z := ⟨_, rfl⟩
          rw [hz1] at cz
          obtain ⟨d0, hd0⟩ : ∃ d, (i : Int) - (j : Int) = d := ⟨_, rfl⟩
          have zd : -9223372036854775808 ≤ d0 ∧ d0 ≤ 9223372036854775807 := by omega
          have HAB : Hid (∀ W, _) := fun W => abs_ok d0 (by omega) (by omega) W
          have HBD : Hid (ab d0 ≤ b ↔ Bnd b i j) := by
            show _ ↔ _
            unfold ab Bnd
            split <;> constructor <;> intro h <;> (try constructor) <;> omega
          obtain ⟨r0, hr0⟩ : ∃ r, ab d0 = r := ⟨_, rfl⟩
          rw [hr0] at HAB HBD
          have HS1 : Hid (Bk (wr.setCell ⟨q, j', none⟩ (.int .i64 4611686018427387904)) q 3 (zs (Z.set j' 4611686018427387904)).toArray ∧ Bk (wr.setCell ⟨q, j', none⟩ (.int .i64 4611686018427387904)) p 3 (zs Zp).toArray ∧ J p q i (wr.setCell ⟨q, j', none⟩ (.int .i64 4611686018427387904))) :=
            ⟨bk_set hq _ _, hp.far (by show p ≠ q; exact hpq) _, HJJ.out.st _ _ hj⟩
          have HZT := Lib.hid hzt
          have HLZ := Lib.hid hlz
          have HIJ : Hid (j + 1 = j' ∧ M.getD j 0 = y) := ⟨hj', hy⟩
          have HD0 : Hid (ab d0 = r0 ∧ Z.getD j' 0 = z1) := ⟨hr0, hz1⟩
          have wj : wrap64 (j' : Int) = (j' : Int) := IntWalk.wrap64_in _ zj
          have wj2 : IntKind.i64.wrap (j' : Int) = (j' : Int) := IntWalk.i64_in _ zj
          have d0w : wrap64 d0 = d0 := IntWalk.wrap64_in _ zd
          have HZJ := Lib.hid zj
          clear hq hp hj hac' hzt hlz hj' hy hr0 hz1 zj zd
          go_wp2_with fail
          go_at_call 66
          refine (HAB.out _).mono ?_
          rintro e w9 ⟨rfl, hw9⟩
          have HS2 : Hid (Bk w9 q 3 (zs (Z.set j' 4611686018427387904)).toArray ∧ Bk w9 p 3 (zs Zp).toArray ∧ J p q i w9) := by
            rw [← hw9]
            first | exact HS1.out | exact ⟨HS1.out.1.drw, HS1.out.2.1.drw, HJJ.out.dr HS1.out.2.2⟩ | exact ⟨HS1.out.1.drwN _, HS1.out.2.1.drwN _, HJJ.out.dn _ HS1.out.2.2⟩
          clear HS1 hw9 cz fz wj wj2 d0w
          rcases Int.lt_or_le b r0 with hout | hinn
          · have HZ2 : Hid (∀ t, t ≤ j' → (Z.set j' 4611686018427387904).getD t 0 = wt L M b (i + 1) t) := fun t ht => by
              rw [set_at]
              rcases Nat.lt_or_ge t j' with h | h
              · rw [if_neg (by omega)]; exact HZT.out t (by have := HIJ.out.1; omega)
              · obtain rfl : t = j' := by omega
                rw [if_pos ⟨rfl, by have := HLZ.out; omega⟩, ← HIJ.out.1, wt_out _ _ _ _ _ (fun h => by have := HBD.out.2 h; omega)]; rfl
            go_wp2
            go_roundw
            case rel => exact ⟨j', _, _, rfl, j'm, by first | rfl | go_num, HS2.out.1, by rw [List.length_set]; exact HLZ.out, HZ2.out, HS2.out.2.1, HS2.out.2.2⟩
            case measure => simp [intOf]; omega
          · have hBB := HBD.out.1 hinn
            have ee := wt_in L M b i j hBB
            have k1 := bk_sz HS2.out.2.1 HRP.out.1 (t := j) (by omega)
            have k2 := bk_sz HS2.out.2.1 HRP.out.1 (t := j') j'm
            have k3 := bk_sz HS2.out.1 (by rw [List.length_set]; exact HLZ.out) (t := j) (by omega)
            have k4 := bk_sz HS2.out.1 (by rw [List.length_set]; exact HLZ.out) (t := j') j'm
            have k5 := HX.out HS2.out.2.2
            have k6 := HY.out HS2.out.2.2
            have fB := HS2.out.1.fr j'
            have b1 := HE.out i j (by omega) (by omega)
            have b2 := HE.out i j' (by omega) (by omega)
            have b3 := HE.out (i + 1) j (by omega) (by omega)
            rw [HRP.out.2 j (by omega)] at k1
            rw [HRP.out.2 j' j'm] at k2
            rw [set_at, if_neg (by have := HIJ.out.1; omega), HZT.out j (Nat.le_refl _)] at k3
            rw [set_at, if_pos ⟨rfl, by have := HLZ.out; omega⟩] at k4
            rw [HIJ.out.1] at ee
            have ec : cst L M i j = (x - y) * (x - y) := by unfold cst; rw [HXE.out, HIJ.out.2]
            rw [ec] at ee
            obtain ⟨a0, ha0⟩ : ∃ v, wt L M b i j = v := ⟨_, rfl⟩
            obtain ⟨e0, he0⟩ : ∃ v, wt L M b i j' = v := ⟨_, rfl⟩
            obtain ⟨g0, hg0⟩ : ∃ v, wt L M b (i + 1) j = v := ⟨_, rfl⟩
            rw [ha0] at k1 b1 ee
            rw [he0] at k2 b2 ee
            rw [hg0] at k3 b3 ee
            obtain ⟨d1, hd1⟩ : ∃ d, x - y = d := ⟨_, rfl⟩
            rw [hd1] at ee
            have hsq := sq_bd (B := 2000) (x := d1) (by omega) (by omega)
            have HSQ : Hid (∀ W, _) := fun W => square_ok d1 (by omega) (by omega) W
            obtain ⟨r1, hr1⟩ : ∃ r, d1 * d1 = r := ⟨_, rfl⟩
            rw [hr1] at HSQ hsq ee
            have hmn := mn3_if a0 e0 g0
            have hml := mn3_or a0 e0 g0
            have z1b : -9223372036854775808 ≤ d1 ∧ d1 ≤ 9223372036854775807 := by omega
            have HEE := Lib.hid ee
            have hne : j ≠ j' := by have := HIJ.out.1; omega
            have HLET := Lib.hid (And.intro ha0 (And.intro he0 (And.intro hg0 (And.intro hr1 hd0))))
            have hcase : (e0 < a0 ∧ g0 < e0 ∧ mn3 a0 e0 g0 = g0) ∨ (e0 < a0 ∧ e0 ≤ g0 ∧ mn3 a0 e0 g0 = e0) ∨ (a0 ≤ e0 ∧ g0 < a0 ∧ mn3 a0 e0 g0 = g0) ∨ (a0 ≤ e0 ∧ a0 ≤ g0 ∧ mn3 a0 e0 g0 = a0) := by
              rw [hmn]
              (repeat' split) <;> omega
            clear ha0 he0 hg0 hr1 hd0 ec hmn hml hBB
            rcases hcase with ⟨l1, l2, l3⟩ | ⟨l1, l2, l3⟩ | ⟨l1, l2, l3⟩ | ⟨l1, l2, l3⟩
            · rw [l3] at ee
              have HEQ := Lib.hid ee
              have z2b : -9223372036854775808 ≤ r1 + g0 ∧ r1 + g0 ≤ 9223372036854775807 := by omega
              have HZ2 : Hid (∀ t, t ≤ j' → ((Z.set j' 4611686018427387904).set j' (r1 + g0)).getD t 0 = wt L M b (i + 1) t) := fun t ht => by
                rw [set_at, set_at, List.length_set]
                rcases Nat.lt_or_ge t j' with h | h
                · rw [if_neg (by omega), if_neg (by omega)]; exact HZT.out t (by have := HIJ.out.1; omega)
                · obtain rfl : t = j' := by omega
                  rw [if_pos ⟨rfl, by have := HLZ.out; omega⟩]
                  exact HEQ.out.symm
              have w1 : IntKind.i64.wrap d1 = d1 := IntWalk.i64_in _ z1b
              have wj2 : IntKind.i64.wrap (j' : Int) = (j' : Int) := IntWalk.i64_in _ HZJ.out
              have w2 : IntKind.i64.wrap (r1 + g0) = r1 + g0 := IntWalk.i64_in _ z2b
              clear ee b1 b2 b3 hsq z1b z2b l3
              go_wp2
              go_region_held3 (fun w' => w'.cell? (ad.add i) = some (.int .i64 x) ∧ w'.cell? (ad'.add j) = some (.int .i64 y) ∧ w'.cell? ⟨p, j, none⟩ = some (.int .i64 a0) ∧ w'.cell? ⟨p, j', none⟩ = some (.int .i64 e0) ∧ w'.cell? ⟨q, j, none⟩ = some (.int .i64 g0))
                ((refine ⟨?_, ?_, ?_, ?_, ?_⟩) <;> (repeat (first | exact k1 | exact k2 | exact k3 | exact k5 | exact k6 | exact HX.out (by repeat (first | exact HS2.out.2.2 | (with_reducible refine HJJ.out.dn _ ?_) | (with_reducible refine HJJ.out.dr ?_) | (with_reducible refine HJJ.out.st _ _ ?_))) | exact HY.out (by repeat (first | exact HS2.out.2.2 | (with_reducible refine HJJ.out.dn _ ?_) | (with_reducible refine HJJ.out.dr ?_) | (with_reducible refine HJJ.out.st _ _ ?_))) | (with_reducible refine kp_drwN ?_ _) | (with_reducible refine kp_drw ?_) | (with_reducible refine kp_st ?_ hne _) | (with_reducible refine kp_fb ?_ hpq _))))
                (first | (go_at_call 68; refine (HSQ.out _).mono ?_; rintro e' w8 ⟨rfl, rfl⟩))
              all_goals
                have HS3 : Hid (Bk (w9.setCell ⟨q, j', none⟩ (.int .i64 (r1 + g0))) q 3 (zs ((Z.set j' 4611686018427387904).set j' (r1 + g0))).toArray ∧ Bk (w9.setCell ⟨q, j', none⟩ (.int .i64 (r1 + g0))) p 3 (zs Zp).toArray ∧ J p q i (w9.setCell ⟨q, j', none⟩ (.int .i64 (r1 + g0)))) :=
                  ⟨bk_set HS2.out.1 _ _, HS2.out.2.1.far (by show p ≠ q; exact hpq) _, HJJ.out.st _ _ HS2.out.2.2⟩
                go_wp2
                go_roundw
                case rel => exact ⟨j', _, _, rfl, j'm, by first | rfl | go_num, HS3.out.1.drw, by rw [List.length_set, List.length_set]; exact HLZ.out, HZ2.out, HS3.out.2.1.drw, HJJ.out.dr HS3.out.2.2⟩
                case measure => simp [intOf]; omega
            · rw [l3] at ee
              have HEQ := Lib.hid ee
              have z2b : -9223372036854775808 ≤ r1 + e0 ∧ r1 + e0 ≤ 9223372036854775807 := by omega
              have HZ2 : Hid (∀ t, t ≤ j' → ((Z.set j' 4611686018427387904).set j' (r1 + e0)).getD t 0 = wt L M b (i + 1) t) := fun t ht => by
                rw [set_at, set_at, List.length_set]
                rcases Nat.lt_or_ge t j' with h | h
                · rw [if_neg (by omega), if_neg (by omega)]; exact HZT.out t (by have := HIJ.out.1; omega)
                · obtain rfl : t = j' := by omega
                  rw [if_pos ⟨rfl, by have := HLZ.out; omega⟩]
                  exact HEQ.out.symm
              have w1 : IntKind.i64.wrap d1 = d1 := IntWalk.i64_in _ z1b
              have wj2 : IntKind.i64.wrap (j' : Int) = (j' : Int) := IntWalk.i64_in _ HZJ.out
              have w2 : IntKind.i64.wrap (r1 + e0) = r1 + e0 := IntWalk.i64_in _ z2b
              clear ee b1 b2 b3 hsq z1b z2b l3
              go_wp2
              go_region_held3 (fun w' => w'.cell? (ad.add i) = some (.int .i64 x) ∧ w'.cell? (ad'.add j) = some (.int .i64 y) ∧ w'.cell? ⟨p, j, none⟩ = some (.int .i64 a0) ∧ w'.cell? ⟨p, j', none⟩ = some (.int .i64 e0) ∧ w'.cell? ⟨q, j, none⟩ = some (.int .i64 g0))
                ((refine ⟨?_, ?_, ?_, ?_, ?_⟩) <;> (repeat (first | exact k1 | exact k2 | exact k3 | exact k5 | exact k6 | exact HX.out (by repeat (first | exact HS2.out.2.2 | (with_reducible refine HJJ.out.dn _ ?_) | (with_reducible refine HJJ.out.dr ?_) | (with_reducible refine HJJ.out.st _ _ ?_))) | exact HY.out (by repeat (first | exact HS2.out.2.2 | (with_reducible refine HJJ.out.dn _ ?_) | (with_reducible refine HJJ.out.dr ?_) | (with_reducible refine HJJ.out.st _ _ ?_))) | (with_reducible refine kp_drwN ?_ _) | (with_reducible refine kp_drw ?_) | (with_reducible refine kp_st ?_ hne _) | (with_reducible refine kp_fb ?_ hpq _))))
                (first | (go_at_call 68; refine (HSQ.out _).mono ?_; rintro e' w8 ⟨rfl, rfl⟩))
              all_goals
                have HS3 : Hid (Bk (w9.setCell ⟨q, j', none⟩ (.int .i64 (r1 + e0))) q 3 (zs ((Z.set j' 4611686018427387904).set j' (r1 + e0))).toArray ∧ Bk (w9.setCell ⟨q, j', none⟩ (.int .i64 (r1 + e0))) p 3 (zs Zp).toArray ∧ J p q i (w9.setCell ⟨q, j', none⟩ (.int .i64 (r1 + e0)))) :=
                  ⟨bk_set HS2.out.1 _ _, HS2.out.2.1.far (by show p ≠ q; exact hpq) _, HJJ.out.st _ _ HS2.out.2.2⟩
                go_wp2
                go_roundw
                case rel => exact ⟨j', _, _, rfl, j'm, by first | rfl | go_num, HS3.out.1.drw, by rw [List.length_set, List.length_set]; exact HLZ.out, HZ2.out, HS3.out.2.1.drw, HJJ.out.dr HS3.out.2.2⟩
                case measure => simp [intOf]; omega
            · rw [l3] at ee
              have HEQ := Lib.hid ee
              have z2b : -9223372036854775808 ≤ r1 + g0 ∧ r1 + g0 ≤ 9223372036854775807 := by omega
              have HZ2 : Hid (∀ t, t ≤ j' → ((Z.set j' 4611686018427387904).set j' (r1 + g0)).getD t 0 = wt L M b (i + 1) t) := fun t ht => by
                rw [set_at, set_at, List.length_set]
                rcases Nat.lt_or_ge t j' with h | h
                · rw [if_neg (by omega), if_neg (by omega)]; exact HZT.out t (by have := HIJ.out.1; omega)
                · obtain rfl : t = j' := by omega
                  rw [if_pos ⟨rfl, by have := HLZ.out; omega⟩]
                  exact HEQ.out.symm
              have w1 : IntKind.i64.wrap d1 = d1 := IntWalk.i64_in _ z1b
              have wj2 : IntKind.i64.wrap (j' : Int) = (j' : Int) := IntWalk.i64_in _ HZJ.out
              have w2 : IntKind.i64.wrap (r1 + g0) = r1 + g0 := IntWalk.i64_in _ z2b
              clear ee b1 b2 b3 hsq z1b z2b l3
              go_wp2
              go_region_held3 (fun w' => w'.cell? (ad.add i) = some (.int .i64 x) ∧ w'.cell? (ad'.add j) = some (.int .i64 y) ∧ w'.cell? ⟨p, j, none⟩ = some (.int .i64 a0) ∧ w'.cell? ⟨p, j', none⟩ = some (.int .i64 e0) ∧ w'.cell? ⟨q, j, none⟩ = some (.int .i64 g0))
                ((refine ⟨?_, ?_, ?_, ?_, ?_⟩) <;> (repeat (first | exact k1 | exact k2 | exact k3 | exact k5 | exact k6 | exact HX.out (by repeat (first | exact HS2.out.2.2 | (with_reducible refine HJJ.out.dn _ ?_) | (with_reducible refine HJJ.out.dr ?_) | (with_reducible refine HJJ.out.st _ _ ?_))) | exact HY.out (by repeat (first | exact HS2.out.2.2 | (with_reducible refine HJJ.out.dn _ ?_) | (with_reducible refine HJJ.out.dr ?_) | (with_reducible refine HJJ.out.st _ _ ?_))) | (with_reducible refine kp_drwN ?_ _) | (with_reducible refine kp_drw ?_) | (with_reducible refine kp_st ?_ hne _) | (with_reducible refine kp_fb ?_ hpq _))))
                (first | (go_at_call 68; refine (HSQ.out _).mono ?_; rintro e' w8 ⟨rfl, rfl⟩))
              all_goals
                have HS3 : Hid (Bk (w9.setCell ⟨q, j', none⟩ (.int .i64 (r1 + g0))) q 3 (zs ((Z.set j' 4611686018427387904).set j' (r1 + g0))).toArray ∧ Bk (w9.setCell ⟨q, j', none⟩ (.int .i64 (r1 + g0))) p 3 (zs Zp).toArray ∧ J p q i (w9.setCell ⟨q, j', none⟩ (.int .i64 (r1 + g0)))) :=
                  ⟨bk_set HS2.out.1 _ _, HS2.out.2.1.far (by show p ≠ q; exact hpq) _, HJJ.out.st _ _ HS2.out.2.2⟩
                go_wp2
                go_roundw
                case rel => exact ⟨j', _, _, rfl, j'm, by first | rfl | go_num, HS3.out.1.drw, by rw [List.length_set, List.length_set]; exact HLZ.out, HZ2.out, HS3.out.2.1.drw, HJJ.out.dr HS3.out.2.2⟩
                case measure => simp [intOf]; omega
            · rw [l3] at ee
              have HEQ := Lib.hid ee
              have z2b : -9223372036854775808 ≤ r1 + a0 ∧ r1 + a0 ≤ 9223372036854775807 := by omega
              have HZ2 : Hid (∀ t, t ≤ j' → ((Z.set j' 4611686018427387904).set j' (r1 + a0)).getD t 0 = wt L M b (i + 1) t) := fun t ht => by
                rw [set_at, set_at, List.length_set]
                rcases Nat.lt_or_ge t j' with h | h
                · rw [if_neg (by omega), if_neg (by omega)]; exact HZT.out t (by have := HIJ.out.1; omega)
                · obtain rfl : t = j' := by omega
                  rw [if_pos ⟨rfl, by have := HLZ.out; omega⟩]
                  exact HEQ.out.symm
              have w1 : IntKind.i64.wrap d1 = d1 := IntWalk.i64_in _ z1b
              have wj2 : IntKind.i64.wrap (j' : Int) = (j' : Int) := IntWalk.i64_in _ HZJ.out
              have w2 : IntKind.i64.wrap (r1 + a0) = r1 + a0 := IntWalk.i64_in _ z2b
              clear ee b1 b2 b3 hsq z1b z2b l3
              go_wp2
              go_region_held3 (fun w' => w'.cell? (ad.add i) = some (.int .i64 x) ∧ w'.cell? (ad'.add j) = some (.int .i64 y) ∧ w'.cell? ⟨p, j, none⟩ = some (.int .i64 a0) ∧ w'.cell? ⟨p, j', none⟩ = some (.int .i64 e0) ∧ w'.cell? ⟨q, j, none⟩ = some (.int .i64 g0))
                ((refine ⟨?_, ?_, ?_, ?_, ?_⟩) <;> (repeat (first | exact k1 | exact k2 | exact k3 | exact k5 | exact k6 | exact HX.out (by repeat (first | exact HS2.out.2.2 | (with_reducible refine HJJ.out.dn _ ?_) | (with_reducible refine HJJ.out.dr ?_) | (with_reducible refine HJJ.out.st _ _ ?_))) | exact HY.out (by repeat (first | exact HS2.out.2.2 | (with_reducible refine HJJ.out.dn _ ?_) | (with_reducible refine HJJ.out.dr ?_) | (with_reducible refine HJJ.out.st _ _ ?_))) | (with_reducible refine kp_drwN ?_ _) | (with_reducible refine kp_drw ?_) | (with_reducible refine kp_st ?_ hne _) | (with_reducible refine kp_fb ?_ hpq _))))
                (first | (go_at_call 68; refine (HSQ.out _).mono ?_; rintro e' w8 ⟨rfl, rfl⟩))
              all_goals
                have HS3 : Hid (Bk (w9.setCell ⟨q, j', none⟩ (.int .i64 (r1 + a0))) q 3 (zs ((Z.set j' 4611686018427387904).set j' (r1 + a0))).toArray ∧ Bk (w9.setCell ⟨q, j', none⟩ (.int .i64 (r1 + a0))) p 3 (zs Zp).toArray ∧ J p q i (w9.setCell ⟨q, j', none⟩ (.int .i64 (r1 + a0)))) :=
                  ⟨bk_set HS2.out.1 _ _, HS2.out.2.1.far (by show p ≠ q; exact hpq) _, HJJ.out.st _ _ HS2.out.2.2⟩
                go_wp2
                go_roundw
                case rel => exact ⟨j', _, _, rfl, j'm, by first | rfl | go_num, HS3.out.1.drw, by rw [List.length_set, List.length_set]; exact HLZ.out, HZ2.out, HS3.out.2.1.drw, HJJ.out.dr HS3.out.2.2⟩
                case measure => simp [intOf]; omega
        · obtain rfl : j = m := by omega
          have HHP := Lib.hid hp
          have HHQ := Lib.hid hq
          have HHJ := Lib.hid hj
          have HRQ : Hid (Rw L M b (i + 1) j Z) := ⟨hlz, hzt⟩
          clear hp hq hj hzt hlz
          go_wp2_with (go_at_fn K; refine (HJJ.out.call hlt HHJ.out hpq HHP.out HHQ.out HRQ.out).mono ?_; rintro e w4 ⟨rfl, hj4, hp4, hq4⟩)
          go_roundw
          case rel => exact ⟨i + 1, _, q, p, Z, Zp, rfl, by omega, rfl, rfl, by go_num, fun e => hpq e.symm, hq4, HRQ.out, hp4, HRP.out.1, HJJ.out.sw hj4⟩
          case measure => simp [intOf]; omega
    · obtain rfl : i = n := by omega
      clear hp hq hrp hlq hj
      go_wp2
      go_end0
      exact ⟨rfl, p, q, HHJ.out⟩
end Go.Proofs.YtabmpnmhjdbdmaaGreatDoor.Wa
