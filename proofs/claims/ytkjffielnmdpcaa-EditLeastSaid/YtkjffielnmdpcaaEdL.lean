/- The contract of edit.Align: an alignment of the least cost. -/
import Derived.Test.YtkjffielnmdpcaaEdR
import Derived.Test.YtkjffielnmdpcaaEdit3
import Derived.BigQuiet
namespace Go.Proofs.Ytkjffielnmdpcaa.Ed
open Go.ChangeShapes Go.WideShapes Go.RowKit Wo Sr Wi
set_option linter.unusedVariables false
theorem al_len {X Y : List Int} {g : Int} {l : List Int} {i j : Nat} {k : Int} (h : Al X Y g l i j k) : i ≤ l.length := by
  have h1 := (al_cnt h).1
  have h2 := List.length_filter_le (fun s : Int => s != 3) l
  unfold cx at h1
  omega
/-- so far: the steps, from the last one on -/
def AlL (X Y : List Int) (g : Int) (n m T : Nat) (w : World) (cs : Array Value) (wr : World) (s10 s11 s12 : Value) : Prop := ∃ (V : World) (u : Value) (i j : Nat) (S : List Int), V = wr ∧ u = s10 ∧ s11 = .int .i64 (i : Int) ∧ s12 = .int .i64 (j : Int) ∧ i ≤ n ∧ j ≤ m ∧
  (∀ l, Al X Y g l i j (et X Y g i j) → Al X Y g (l ++ S.reverse) n m (et X Y g n m)) ∧ S.length + (i + j) ≤ n + m ∧
  wr.ownsRow (T + 1) 3 1 s10 S.length (zs S) ∧ Bel w wr ∧ Bk wr T 73 cs ∧ T + 1 ≤ wr.heap.size
set_option maxHeartbeats 16000000 in
set_option maxRecDepth 100000 in
theorem align_ok (hx hy cx cy n m : Nat) (X Y : List Int) (g : Int) (n1 : 2 ≤ n) (n2 : n ≤ 32) (m1 : 2 ≤ m) (m2 : m ≤ 32) (g0 : -1000 ≤ g) (g1 : g ≤ 1000) (s1 : Sam X) (s2 : Sam Y) (w : World) (h1 : Zi w (some ⟨hx, 0, none⟩) n X) (h2 : Zi w (some ⟨hy, 0, none⟩) m Y) :
    Calls Try.prog 27 #[.slice (some ⟨hx, 0, none⟩) n cx, .slice (some ⟨hy, 0, none⟩) m cy, .int .i64 g] w fun e w' => ∃ h c S, e = .returned (.tuple #[.slice (some ⟨h, 0, none⟩) S.length c, .int .i64 0]) ∧ Zi w' (some ⟨h, 0, none⟩) S.length S ∧ Al X Y g S n m (et X Y g n m) ∧ Bel w w' := by
  obtain ⟨i0, hi0, hz0, hz1, hz2⟩ := info_parts info_int
  have HI := Lib.hid (And.intro hi0 (And.intro hz0 (And.intro hz1 hz2)))
  clear hi0 hz0 hz1 hz2
  have HC := Lib.hid (check_ok (some ⟨hx, 0, none⟩) (some ⟨hy, 0, none⟩) cx cy n m X Y g n1 n2 m1 m2 g0 g1 s1 s2 w h1 h2)
  have HF : Hid (∀ W, Bel w W → _) := fun W hW => fill_ok (some ⟨hx, 0, none⟩) (some ⟨hy, 0, none⟩) cx cy n m X Y g n1 n2 m1 m2 g0 g1 s1 s2 W (h1.bel hW) (h2.bel hW)
  have H1 := Lib.hid h1
  have H2 := Lib.hid h2
  have HSX := Lib.hid s1
  have HSY := Lib.hid s2
  have HE : Hid (∀ i j, i ≤ 32 → j ≤ 32 → 0 ≤ et X Y g i j ∧ et X Y g i j ≤ 128000) := fun i j hi hj => ⟨et_nn X Y g _ i j rfl, by have := et_hi s1 s2 g0 g1 _ i j rfl; omega⟩
  have i2 : (n : Int) ≤ 32 := by omega
  have i4 : (m : Int) ≤ 32 := by omega
  clear h1 h2 s1 s2
  go_enter Try.func27, Try.ntmps27
  go_wp2_with fail
  go_at_call 50
  refine HC.out.mono ?_
  rintro e w1 ⟨rfl, hb1⟩
  have HB1 := Lib.hid hb1
  clear hb1
  go_wp2_with fail
  go_at_call 51
  refine (HF.out _ HB1.out).mono ?_
  rintro e w2 ⟨cs, rfl, hfu, hb2⟩
  have HB2 := Lib.hid (HB1.out.tr hb2)
  have HTB : Hid (Tb cs) := hfu.1
  have HFC : Hid (∀ i j, i ≤ n → j ≤ m → cs[i * 33 + j]? = some (.int .i64 (et X Y g i j))) := fun i j hi hj => hfu.2 i j (by omega) (by omega) ⟨hi, hj⟩
  have HCS : Hid (cs.size = zc.size) := by show _ = _; rw [zc_size]; exact hfu.1.1
  have HC2 : Hid ((Try.prog.info? 73).map (·.size) = some cs.size) := by show _ = _; rw [size_tab, hfu.1.1]
  clear hfu hb2
  go_wp2_with (first
    | (refine wpList_alloc_big _ rfl 73 rfl zc zero_tab ?_)
    | (refine wpList_store_big rfl 73 _ _ rfl w2.heap.size cs zc 73 rfl rfl (Bk.nw _ _ _) HCS.out HC2.out HTB.out.one ?_; intro W HBK HBE))
  have HWB : Hid (Bel w W) := HBE.out w (HB2.out.al _) HB2.out.size
  have hT0 := HB2.out.size
  obtain ⟨T, hTT⟩ : ∃ T, w2.heap.size = T := ⟨_, rfl⟩
  rw [hTT] at HBK hT0
  have HR0 : Hid (AlL X Y g n m T w cs W (.slice none 0 0) (.int .i64 (n : Int)) (.int .i64 (m : Int))) := ⟨_, _, n, m, [], rfl, rfl, rfl, rfl, Nat.le_refl _, Nat.le_refl _, fun l h => by simpa using h, by simp, World.ownsRow_nil _ _ _ _, HWB.out, HBK.out, HBK.out.lt⟩
  clear HBE HBK HWB
  try rw [hTT]
  go_loopw [10, 11, 12] (fun s10 s11 s12 wr => AlL X Y g n m T w cs wr s10 s11 s12) (fun _ s11 s12 _ => (intOf s11).toNat + (intOf s12).toNat)
  case atStart => exact HR0.out
  case round =>
    clear HR0
    obtain ⟨wr, u, i, j, S, hwr, hu, rfl, rfl, hin, hjm, hal, hlen, hown, hb, hk, hbase⟩ := hrel
    subst hwr hu
    have HO := Lib.hid hown
    have HB := Lib.hid hb
    have HK := Lib.hid hk
    have HAL := Lib.hid hal
    have k0 : wr.cell? ⟨T, i * 33 + j, none⟩ = some (.int .i64 (et X Y g i j)) := (hk.cell _).trans (HFC.out i j hin hjm)
    have b0 := HE.out i j (by omega) (by omega)
    have fi : (i : Int) < 33 := by omega
    have fj : (j : Int) < 33 := by omega
    have fi2 : i < 33 := by omega
    have fj2 : j < 33 := by omega
    have hlen2 : S.length ≤ 64 := by omega
    rcases Nat.eq_zero_or_pos i with hi0 | hi0
    · subst hi0
      rcases Nat.eq_zero_or_pos j with hj0 | hj0
      · subst hj0
        have hfin : Al X Y g S.reverse n m (et X Y g n m) := by
          have := hal [] (by rw [et_00]; exact Al.nil)
          simpa using this
        have hk1 : 1 ≤ S.length := by
          have h2 := al_len hfin
          rw [List.length_reverse] at h2
          omega
        obtain ⟨h, cc, rfl, hcc, hh⟩ := row_form hown (by omega)
        have RV := Lib.hid (reverse_ok (T + 1) h cc S.length S rfl hk1 (by omega) wr w hown hb (by omega))
        have HFI := Lib.hid hfin
        clear k0 b0 hown hb hk hal hfin
        go_wp2_with fail
        go_at_call 52
        refine RV.out.mono ?_
        rintro e w9 ⟨rfl, ho, hb⟩
        have HO9 := Lib.hid ho
        have HB9 := Lib.hid hb
        clear ho hb
        go_wp2
        go_ret2
        have hl : S.reverse.length = S.length := List.length_reverse
        exact ⟨h, cc, S.reverse, by rw [hl]; rfl, by rw [hl]; exact own_zi HO9.out hl, HFI.out, HB9.out⟩
      · obtain ⟨b, hb1⟩ : ∃ b, j = b + 1 := ⟨j - 1, by omega⟩
        have ej := et_0s X Y g b
        rw [← hb1] at ej
        have hjb : (j : Int) - 1 = (b : Int) := by omega
        have j0 : 0 < (j : Int) := by omega
        have HQ := Lib.hid (And.intro hb1 ej)
        clear k0 b0 hown hb hk hal hb1 ej
        go_wp2_with fail
        go_quiet (fail)
        go_wp2_with fail
        go_quiet (fail)
        go_wp2_with (at_builtin; refine wpList_append_lies _ (by rfl) _ _ 22 (by rfl) (T + 1) 3 i0 _ 1 8 Try.underlying22 HI.out.1 HI.out.2.1 HI.out.2.2.1 HI.out.2.2.2 (by rfl) (by omega) u S.length (zs S) (by rfl) ((own_bel HO.out (by repeat (first | exact Bel.rf | (with_reducible refine Bel.drwN ?_ _) | (with_reducible refine Bel.drw ?_) | (with_reducible refine Bel.al ?_ _)))).alloc _) ⟨wr.heap.size, 0, none⟩ 1 1 [.int .i64 3] (by rfl) (by rfl) (World.news_of_block (cs := #[.int .i64 3]) (t := 3) (fr := (0, 0)) (heap_alloc_new _ _)) (by simp [Value.oneCell']) (by omega) (by unfold maxLen; omega) (by omega) (by simp; omega) (wr.heap.size + 1) (by simp) ?_; intro h' cap' w5 hown4 hgrow hat hlt4)
        have hst := al2_step HB.out HK.out (by omega) hT0 hbase HO.out (wq := _) (by repeat (first | exact Bel.rf | (with_reducible refine Bel.drwN ?_ _) | (with_reducible refine Bel.drw ?_) | (with_reducible refine Bel.al ?_ _))) hgrow
        have HST := Lib.hid hst
        have HOW := Lib.hid hown4
        clear hst hown4 hgrow hat
        go_wp2
        go_roundw
        case rel =>
          refine ⟨_, _, 0, b, S ++ [3], rfl, rfl, by first | rfl | (congr 1; omega), by first | rfl | (congr 1; omega), by omega, by omega, fun l hl => ?_, by rw [List.length_append]; simp only [List.length_cons, List.length_nil]; have := HQ.out.1; omega, by rw [List.length_append, zs_app]; exact HOW.out, HST.out.1, HST.out.2.1, HST.out.2.2⟩
          have h3 := Al.right hl
          rw [← HQ.out.1, ← HQ.out.2] at h3
          have h4 := HAL.out _ h3
          rw [List.reverse_append, List.reverse_singleton]
          simpa [List.append_assoc] using h4
        case measure => (have := HQ.out.1; simp [intOf]; omega)
    · obtain ⟨a, ha1⟩ : ∃ a, i = a + 1 := ⟨i - 1, by omega⟩
      have hia : (i : Int) - 1 = (a : Int) := by omega
      have i0' : 0 < (i : Int) := by omega
      have fa : (a : Int) < 33 := by omega
      have fa2 : a < 33 := by omega
      have wa : IntKind.i64.wrap (a : Int) = (a : Int) := IntWalk.i64_in _ (by omega)
      have an : (a : Int) < (n : Int) := by omega
      have kx := (H1.out.bel hb).at a (by omega)
      have px := HSX.out.at a
      have k2 : wr.cell? ⟨T, a * 33 + j, none⟩ = some (.int .i64 (et X Y g a j)) := (hk.cell _).trans (HFC.out a j (by omega) hjm)
      have b2 := HE.out a j (by omega) (by omega)
      obtain ⟨x, hx'⟩ : ∃ x, X.getD a 0 = x := ⟨_, rfl⟩
      rw [hx'] at kx px
      obtain ⟨d2, hd2⟩ : ∃ d, x - g = d := ⟨_, rfl⟩
      have br2 := ab_in (x := d2) (B := 2000) (by omega) (by omega)
      have AB2 : Hid (∀ W, _) := fun W => abs_ok d2 (by omega) (by omega) W
      obtain ⟨r2, hr2⟩ : ∃ r, ab d2 = r := ⟨_, rfl⟩
      rw [hr2] at br2 AB2
      have w2' : IntKind.i64.wrap d2 = d2 := IntWalk.i64_in _ (by omega)
      rcases Nat.eq_zero_or_pos j with hj0 | hj0
      · subst hj0
        have e10 : et X Y g i 0 = et X Y g a 0 + r2 := by rw [ha1, et_s0, hx', hd2, hr2]
        have e10' : et X Y g i 0 = et X Y g a 0 + ab (X.getD a 0 - g) := by rw [hx', hd2, hr2]; exact e10
        obtain ⟨e0, he0⟩ : ∃ e, et X Y g i 0 = e := ⟨_, rfl⟩
        obtain ⟨e2, he2⟩ : ∃ e, et X Y g a 0 = e := ⟨_, rfl⟩
        rw [he0] at k0 b0 e10
        rw [he2] at k2 b2 e10
        have e10s : e2 + r2 = e0 := e10.symm
        have wq : IntKind.i64.wrap e0 = e0 := IntWalk.i64_in _ (by omega)
        have kq : (e0 == e0) = true := by simp
        have k0' : wr.cell? ⟨T, i * 33, none⟩ = some (.int .i64 e0) := k0
        have k2' : wr.cell? ⟨T, a * 33, none⟩ = some (.int .i64 e2) := k2
        have HQ := Lib.hid (And.intro ha1 (And.intro e10' (And.intro hx' (And.intro hr2 (And.intro he0 he2)))))
        clear k0 k2 b0 b2 br2 hown hb hk hal ha1 e10 e10' hx' hr2 he0 he2 px
        go_wp2_with fail
        go_quiet (fail)
        go_wp2_with fail
        go_region_held3 (fun w' => w'.cell? ⟨T, i * 33, none⟩ = some (.int .i64 e0) ∧ w'.cell? ⟨T, a * 33, none⟩ = some (.int .i64 e2) ∧ w'.cell? ⟨hx, a, none⟩ = some (.int .i64 x))
          ((refine ⟨?_, ?_, ?_⟩) <;> (repeat (first | exact k0' | exact k2' | exact kx | (with_reducible refine kp_drwN ?_ _) | (with_reducible refine kp_drw ?_))))
          (first | (go_at_call 43; refine (AB2.out _).mono ?_; rintro e' w9 ⟨rfl, rfl⟩))
        go_wp2_with (at_builtin; refine wpList_append_lies _ (by rfl) _ _ 22 (by rfl) (T + 1) 3 i0 _ 1 8 Try.underlying22 HI.out.1 HI.out.2.1 HI.out.2.2.1 HI.out.2.2.2 (by rfl) (by omega) u S.length (zs S) (by rfl) ((own_bel HO.out (by repeat (first | exact Bel.rf | (with_reducible refine Bel.drwN ?_ _) | (with_reducible refine Bel.drw ?_) | (with_reducible refine Bel.al ?_ _)))).alloc _) ⟨wr.heap.size, 0, none⟩ 1 1 [.int .i64 2] (by rfl) (by rfl) (World.news_of_block (cs := #[.int .i64 2]) (t := 3) (fr := (0, 0)) (heap_alloc_new _ _)) (by simp [Value.oneCell']) (by omega) (by unfold maxLen; omega) (by omega) (by simp; omega) (wr.heap.size + 1) (by simp) ?_; intro h' cap' w5 hown4 hgrow hat hlt4)
        have hst := al2_step HB.out HK.out (by omega) hT0 hbase HO.out (wq := _) (by repeat (first | exact Bel.rf | (with_reducible refine Bel.drwN ?_ _) | (with_reducible refine Bel.drw ?_) | (with_reducible refine Bel.al ?_ _))) hgrow
        have HST := Lib.hid hst
        have HOW := Lib.hid hown4
        clear hst hown4 hgrow hat
        go_wp2
        go_roundw
        case rel =>
          refine ⟨_, _, a, 0, S ++ [2], rfl, rfl, by first | rfl | (congr 1; omega), by first | rfl | (congr 1; omega), by omega, by omega, fun l hl => ?_, by rw [List.length_append]; simp only [List.length_cons, List.length_nil]; have := HQ.out.1; omega, by rw [List.length_append, zs_app]; exact HOW.out, HST.out.1, HST.out.2.1, HST.out.2.2⟩
          have h3 := Al.left hl
          rw [← HQ.out.1, ← HQ.out.2.1] at h3
          have h4 := HAL.out _ h3
          rw [List.reverse_append, List.reverse_singleton]
          simpa [List.append_assoc] using h4
        case measure => (have := HQ.out.1; simp [intOf]; omega)
      · obtain ⟨b, hb1⟩ : ∃ b, j = b + 1 := ⟨j - 1, by omega⟩
        have hjb : (j : Int) - 1 = (b : Int) := by omega
        have j0 : 0 < (j : Int) := by omega
        have fb : (b : Int) < 33 := by omega
        have fb2 : b < 33 := by omega
        have wb : IntKind.i64.wrap (b : Int) = (b : Int) := IntWalk.i64_in _ (by omega)
        have bm : (b : Int) < (m : Int) := by omega
        have ky := (H2.out.bel hb).at b (by omega)
        have py := HSY.out.at b
        have k1 : wr.cell? ⟨T, a * 33 + b, none⟩ = some (.int .i64 (et X Y g a b)) := (hk.cell _).trans (HFC.out a b (by omega) (by omega))
        have b1 := HE.out a b (by omega) (by omega)
        obtain ⟨y, hy'⟩ : ∃ x, Y.getD b 0 = x := ⟨_, rfl⟩
        rw [hy'] at ky py
        obtain ⟨d1, hd1⟩ : ∃ d, x - y = d := ⟨_, rfl⟩
        have br1 := ab_in (x := d1) (B := 2000) (by omega) (by omega)
        have AB1 : Hid (∀ W, _) := fun W => abs_ok d1 (by omega) (by omega) W
        obtain ⟨r1, hr1⟩ : ∃ r, ab d1 = r := ⟨_, rfl⟩
        rw [hr1] at br1 AB1
        have w1' : IntKind.i64.wrap d1 = d1 := IntWalk.i64_in _ (by omega)
        have hor := et_or X Y g i j (by omega)
        have E11 : Hid (et X Y g i j = et X Y g a b + r1 → et X Y g i j = et X Y g a b + ab (X.getD a 0 - Y.getD b 0)) := fun h => by rw [hx', hy', hd1, hr1]; exact h
        have E10 : Hid (et X Y g i j = et X Y g a j + r2 → et X Y g i j = et X Y g a j + ab (X.getD a 0 - g)) := fun h => by rw [hx', hd2, hr2]; exact h
        have E01 : Hid (et X Y g i j ≠ et X Y g a b + r1 → et X Y g i j ≠ et X Y g a j + r2 → et X Y g i j = et X Y g i b + ab (Y.getD b 0 - g)) := fun h1 h2 => by
          rcases hor with ⟨p, q, hp, hq, e⟩ | ⟨p, hp, e⟩ | ⟨q, hq, e⟩
          · obtain rfl : p = a := by omega
            obtain rfl : q = b := by omega
            rw [hx', hy', hd1, hr1] at e
            exact absurd e h1
          · obtain rfl : p = a := by omega
            rw [hx', hd2, hr2] at e
            exact absurd e h2
          · obtain rfl : q = b := by omega
            exact e
        obtain ⟨e0, he0⟩ : ∃ e, et X Y g i j = e := ⟨_, rfl⟩
        obtain ⟨e1, he1⟩ : ∃ e, et X Y g a b = e := ⟨_, rfl⟩
        obtain ⟨e2, he2⟩ : ∃ e, et X Y g a j = e := ⟨_, rfl⟩
        rw [he0] at k0 b0 E11 E10 E01
        rw [he1] at k1 b1 E11 E01
        rw [he2] at k2 b2 E10 E01
        obtain ⟨q1, hq1⟩ : ∃ q, e1 + r1 = q := ⟨_, rfl⟩
        obtain ⟨q2, hq2⟩ : ∃ q, e2 + r2 = q := ⟨_, rfl⟩
        rw [hq1] at E11 E01
        rw [hq2] at E10 E01
        have wq1 : IntKind.i64.wrap q1 = q1 := IntWalk.i64_in _ (by omega)
        have wq2 : IntKind.i64.wrap q2 = q2 := IntWalk.i64_in _ (by omega)
        have HQ := Lib.hid (And.intro ha1 (And.intro hb1 (And.intro hx' (And.intro hy' (And.intro hr1 (And.intro hr2 (And.intro he0 (And.intro he1 he2))))))))
        clear b0 b1 b2 br1 br2 hown hb hk hal ha1 hb1 hx' hy' hr1 hr2 he0 he1 he2 px py hor
        rcases Classical.em (e0 = q1) with hq | hq
        · subst hq
          have kq : (e0 == e0) = true := by simp
          go_wp2_with fail
          go_region_held3 (fun w' => w'.cell? ⟨T, i * 33 + j, none⟩ = some (.int .i64 e0) ∧ w'.cell? ⟨T, a * 33 + b, none⟩ = some (.int .i64 e1) ∧ w'.cell? ⟨hx, a, none⟩ = some (.int .i64 x) ∧ w'.cell? ⟨hy, b, none⟩ = some (.int .i64 y))
            ((refine ⟨?_, ?_, ?_, ?_⟩) <;> (repeat (first | exact k0 | exact k1 | exact kx | exact ky | (with_reducible refine kp_drwN ?_ _) | (with_reducible refine kp_drw ?_))))
            (first | (go_at_call 43; (with_reducible refine (AB1.out _).mono ?_); rintro e' w9 ⟨rfl, rfl⟩))
          go_wp2_with (at_builtin; refine wpList_append_lies _ (by rfl) _ _ 22 (by rfl) (T + 1) 3 i0 _ 1 8 Try.underlying22 HI.out.1 HI.out.2.1 HI.out.2.2.1 HI.out.2.2.2 (by rfl) (by omega) u S.length (zs S) (by rfl) ((own_bel HO.out (by repeat (first | exact Bel.rf | (with_reducible refine Bel.drwN ?_ _) | (with_reducible refine Bel.drw ?_) | (with_reducible refine Bel.al ?_ _)))).alloc _) ⟨wr.heap.size, 0, none⟩ 1 1 [.int .i64 1] (by rfl) (by rfl) (World.news_of_block (cs := #[.int .i64 1]) (t := 3) (fr := (0, 0)) (heap_alloc_new _ _)) (by simp [Value.oneCell']) (by omega) (by unfold maxLen; omega) (by omega) (by simp; omega) (wr.heap.size + 1) (by simp) ?_; intro h' cap' w5 hown4 hgrow hat hlt4)
          have hst := al2_step HB.out HK.out (by omega) hT0 hbase HO.out (wq := _) (by repeat (first | exact Bel.rf | (with_reducible refine Bel.drwN ?_ _) | (with_reducible refine Bel.drw ?_) | (with_reducible refine Bel.al ?_ _))) hgrow
          have HST := Lib.hid hst
          have HOW := Lib.hid hown4
          clear hst hown4 hgrow hat
          go_wp2
          go_roundw
          case rel =>
            refine ⟨_, _, a, b, S ++ [1], rfl, rfl, by first | rfl | (congr 1; omega), by first | rfl | (congr 1; omega), by omega, by omega, fun l hl => ?_, by rw [List.length_append]; simp only [List.length_cons, List.length_nil]; have := HQ.out.1; have := HQ.out.2.1; omega, by rw [List.length_append, zs_app]; exact HOW.out, HST.out.1, HST.out.2.1, HST.out.2.2⟩
            have h3 := Al.both hl
            rw [← HQ.out.1, ← HQ.out.2.1] at h3
            have hq0 := E11.out (by first | trivial | rfl)
            rw [HQ.out.2.2.2.2.2.2.2.1, ← hq0, ← HQ.out.2.2.2.2.2.2.1] at h3
            have h4 := HAL.out _ h3
            rw [List.reverse_append, List.reverse_singleton]
            simpa [List.append_assoc] using h4
          case measure => (have := HQ.out.1; have := HQ.out.2.1; simp [intOf]; omega)
        · have kq1 : (e0 == q1) = false := by simpa using hq
          rcases Classical.em (e0 = q2) with hqq | hqq
          · subst hqq
            have kq : (e0 == e0) = true := by simp
            go_wp2_with fail
            go_region_held3 (fun w' => w'.cell? ⟨T, i * 33 + j, none⟩ = some (.int .i64 e0) ∧ w'.cell? ⟨T, a * 33 + b, none⟩ = some (.int .i64 e1) ∧ w'.cell? ⟨hx, a, none⟩ = some (.int .i64 x) ∧ w'.cell? ⟨hy, b, none⟩ = some (.int .i64 y))
              ((refine ⟨?_, ?_, ?_, ?_⟩) <;> (repeat (first | exact k0 | exact k1 | exact kx | exact ky | (with_reducible refine kp_drwN ?_ _) | (with_reducible refine kp_drw ?_))))
              (first | (go_at_call 43; (with_reducible refine (AB1.out _).mono ?_); rintro e' w9 ⟨rfl, rfl⟩))
            go_wp2_with fail
            go_region_held3 (fun w' => w'.cell? ⟨T, i * 33 + j, none⟩ = some (.int .i64 e0) ∧ w'.cell? ⟨T, a * 33 + j, none⟩ = some (.int .i64 e2) ∧ w'.cell? ⟨hx, a, none⟩ = some (.int .i64 x))
              ((refine ⟨?_, ?_, ?_⟩) <;> (repeat (first | exact k0 | exact k2 | exact kx | (with_reducible refine kp_drwN ?_ _) | (with_reducible refine kp_drw ?_))))
              (first | (go_at_call 43; (with_reducible refine (AB2.out _).mono ?_); rintro e' w9 ⟨rfl, rfl⟩))
            go_wp2_with (at_builtin; refine wpList_append_lies _ (by rfl) _ _ 22 (by rfl) (T + 1) 3 i0 _ 1 8 Try.underlying22 HI.out.1 HI.out.2.1 HI.out.2.2.1 HI.out.2.2.2 (by rfl) (by omega) u S.length (zs S) (by rfl) ((own_bel HO.out (by repeat (first | exact Bel.rf | (with_reducible refine Bel.drwN ?_ _) | (with_reducible refine Bel.drw ?_) | (with_reducible refine Bel.al ?_ _)))).alloc _) ⟨wr.heap.size, 0, none⟩ 1 1 [.int .i64 2] (by rfl) (by rfl) (World.news_of_block (cs := #[.int .i64 2]) (t := 3) (fr := (0, 0)) (heap_alloc_new _ _)) (by simp [Value.oneCell']) (by omega) (by unfold maxLen; omega) (by omega) (by simp; omega) (wr.heap.size + 1) (by simp) ?_; intro h' cap' w5 hown4 hgrow hat hlt4)
            have hst := al2_step HB.out HK.out (by omega) hT0 hbase HO.out (wq := _) (by repeat (first | exact Bel.rf | (with_reducible refine Bel.drwN ?_ _) | (with_reducible refine Bel.drw ?_) | (with_reducible refine Bel.al ?_ _))) hgrow
            have HST := Lib.hid hst
            have HOW := Lib.hid hown4
            clear hst hown4 hgrow hat
            go_wp2
            go_roundw
            case rel =>
              refine ⟨_, _, a, j, S ++ [2], rfl, rfl, by first | rfl | (congr 1; omega), by first | rfl | (congr 1; omega), by omega, by omega, fun l hl => ?_, by rw [List.length_append]; simp only [List.length_cons, List.length_nil]; have := HQ.out.1; omega, by rw [List.length_append, zs_app]; exact HOW.out, HST.out.1, HST.out.2.1, HST.out.2.2⟩
              have h3 := Al.left hl
              rw [← HQ.out.1] at h3
              have hq0 := E10.out (by first | trivial | rfl)
              rw [HQ.out.2.2.2.2.2.2.2.2, ← hq0, ← HQ.out.2.2.2.2.2.2.1] at h3
              have h4 := HAL.out _ h3
              rw [List.reverse_append, List.reverse_singleton]
              simpa [List.append_assoc] using h4
            case measure => (have := HQ.out.1; simp [intOf]; omega)
          · have kq2 : (e0 == q2) = false := by simpa using hqq
            go_wp2_with fail
            go_region_held3 (fun w' => w'.cell? ⟨T, i * 33 + j, none⟩ = some (.int .i64 e0) ∧ w'.cell? ⟨T, a * 33 + b, none⟩ = some (.int .i64 e1) ∧ w'.cell? ⟨hx, a, none⟩ = some (.int .i64 x) ∧ w'.cell? ⟨hy, b, none⟩ = some (.int .i64 y))
              ((refine ⟨?_, ?_, ?_, ?_⟩) <;> (repeat (first | exact k0 | exact k1 | exact kx | exact ky | (with_reducible refine kp_drwN ?_ _) | (with_reducible refine kp_drw ?_))))
              (first | (go_at_call 43; (with_reducible refine (AB1.out _).mono ?_); rintro e' w9 ⟨rfl, rfl⟩))
            go_wp2_with fail
            go_region_held3 (fun w' => w'.cell? ⟨T, i * 33 + j, none⟩ = some (.int .i64 e0) ∧ w'.cell? ⟨T, a * 33 + j, none⟩ = some (.int .i64 e2) ∧ w'.cell? ⟨hx, a, none⟩ = some (.int .i64 x))
              ((refine ⟨?_, ?_, ?_⟩) <;> (repeat (first | exact k0 | exact k2 | exact kx | (with_reducible refine kp_drwN ?_ _) | (with_reducible refine kp_drw ?_))))
              (first | (go_at_call 43; (with_reducible refine (AB2.out _).mono ?_); rintro e' w9 ⟨rfl, rfl⟩))
            go_wp2_with (at_builtin; refine wpList_append_lies _ (by rfl) _ _ 22 (by rfl) (T + 1) 3 i0 _ 1 8 Try.underlying22 HI.out.1 HI.out.2.1 HI.out.2.2.1 HI.out.2.2.2 (by rfl) (by omega) u S.length (zs S) (by rfl) ((own_bel HO.out (by repeat (first | exact Bel.rf | (with_reducible refine Bel.drwN ?_ _) | (with_reducible refine Bel.drw ?_) | (with_reducible refine Bel.al ?_ _)))).alloc _) ⟨wr.heap.size, 0, none⟩ 1 1 [.int .i64 3] (by rfl) (by rfl) (World.news_of_block (cs := #[.int .i64 3]) (t := 3) (fr := (0, 0)) (heap_alloc_new _ _)) (by simp [Value.oneCell']) (by omega) (by unfold maxLen; omega) (by omega) (by simp; omega) (wr.heap.size + 1) (by simp) ?_; intro h' cap' w5 hown4 hgrow hat hlt4)
            have hst := al2_step HB.out HK.out (by omega) hT0 hbase HO.out (wq := _) (by repeat (first | exact Bel.rf | (with_reducible refine Bel.drwN ?_ _) | (with_reducible refine Bel.drw ?_) | (with_reducible refine Bel.al ?_ _))) hgrow
            have HST := Lib.hid hst
            have HOW := Lib.hid hown4
            clear hst hown4 hgrow hat
            go_wp2
            go_roundw
            case rel =>
              refine ⟨_, _, i, b, S ++ [3], rfl, rfl, by first | rfl | (congr 1; omega), by first | rfl | (congr 1; omega), by omega, by omega, fun l hl => ?_, by rw [List.length_append]; simp only [List.length_cons, List.length_nil]; have := HQ.out.2.1; omega, by rw [List.length_append, zs_app]; exact HOW.out, HST.out.1, HST.out.2.1, HST.out.2.2⟩
              have h3 := Al.right hl
              rw [← HQ.out.2.1] at h3
              have hq0 := E01.out hq hqq
              rw [← hq0, ← HQ.out.2.2.2.2.2.2.1] at h3
              have h4 := HAL.out _ h3
              rw [List.reverse_append, List.reverse_singleton]
              simpa [List.append_assoc] using h4
            case measure => (have := HQ.out.2.1; simp [intOf]; omega)
end Go.Proofs.Ytkjffielnmdpcaa.Ed
