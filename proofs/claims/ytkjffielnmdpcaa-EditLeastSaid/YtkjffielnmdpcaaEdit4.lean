/- The contract of edit.Align at the example of the chapter. -/
import Derived.Test.YtkjffielnmdpcaaEdit3
import Derived.BigQuiet
namespace Go.Proofs.Ytkjffielnmdpcaa.Ed
open Go.ChangeShapes Go.WideShapes Go.RowKit Wo Sr Wi
set_option linter.unusedVariables false
set_option maxHeartbeats 8000000 in
set_option maxRecDepth 100000 in
theorem align2 (hx hy cx cy : Nat) (w : World) (h1 : Zi w (some ⟨hx, 0, none⟩) 2 [0, 3]) (h2 : Zi w (some ⟨hy, 0, none⟩) 2 [3, 0]) :
    Calls Try.prog 27 #[.slice (some ⟨hx, 0, none⟩) 2 cx, .slice (some ⟨hy, 0, none⟩) 2 cy, .int .i64 0] w fun e w' => ∃ h c, e = .returned (.tuple #[.slice (some ⟨h, 0, none⟩) 3 c, .int .i64 0]) ∧ Zi w' (some ⟨h, 0, none⟩) 3 [2, 1, 3] ∧ Bel w w' := by
  obtain ⟨i0, hi0, hz0, hz1, hz2⟩ := info_parts info_int
  have HI := Lib.hid (And.intro hi0 (And.intro hz0 (And.intro hz1 hz2)))
  clear hi0 hz0 hz1 hz2
  have s1 : Sam [0, 3] := sam_l (by decide)
  have s2 : Sam [3, 0] := sam_l (by decide)
  have HC := Lib.hid (check_ok (some ⟨hx, 0, none⟩) (some ⟨hy, 0, none⟩) cx cy 2 2 [0, 3] [3, 0] 0 (by decide) (by decide) (by decide) (by decide) (by decide) (by decide) s1 s2 w h1 h2)
  have HF : Hid (∀ W, Bel w W → _) := fun W hW => fill_ok (some ⟨hx, 0, none⟩) (some ⟨hy, 0, none⟩) cx cy 2 2 [0, 3] [3, 0] 0 (by decide) (by decide) (by decide) (by decide) (by decide) (by decide) s1 s2 W (h1.bel hW) (h2.bel hW)
  have H1 := Lib.hid h1
  have H2 := Lib.hid h2
  have AB3 : Hid (∀ W, Calls Try.prog 43 #[.int .i64 3] W fun e w' => e = .returned (.int .i64 3) ∧ W = w') := fun W => abs_ok 3 (by decide) (by decide) W
  have AB0 : Hid (∀ W, Calls Try.prog 43 #[.int .i64 0] W fun e w' => e = .returned (.int .i64 0) ∧ W = w') := fun W => abs_ok 0 (by decide) (by decide) W
  have q0 : IntKind.i64.wrap 0 = 0 := by decide
  have q1 : IntKind.i64.wrap 1 = 1 := by decide
  have q2 : IntKind.i64.wrap 2 = 2 := by decide
  have q3 : IntKind.i64.wrap 3 = 3 := by decide
  have q6 : IntKind.i64.wrap 6 = 6 := by decide
  clear h1 h2 s1 s2
  go_enter Try.func27, Try.ntmps27
  go_wp2_with fail
  go_at_call 50
  refine HC.out.mono ?_
  rintro e w1 ⟨rfl, hb1⟩
  have HB1 := Lib.hid hb1
  clear hb1
  go_wp2_with fail
  go_at_call 51
  refine (HF.out _ HB1.out).mono ?_
  rintro e w2 ⟨cs, rfl, hfu, hb2⟩
  have HB2 := Lib.hid (HB1.out.tr hb2)
  have HTB : Hid (Tb cs) := hfu.1
  obtain ⟨e22, e11, e12, e21, e10, e00⟩ := tab2
  have HFC : Hid (cs[68]? = some (.int .i64 0) ∧ cs[34]? = some (.int .i64 3) ∧ cs[35]? = some (.int .i64 3) ∧ cs[67]? = some (.int .i64 0) ∧ cs[33]? = some (.int .i64 0) ∧ cs[0]? = some (.int .i64 0)) := by
    have f := hfu.2
    have g22 := f 2 2 (by decide) (by decide) ⟨by decide, by decide⟩
    have g11 := f 1 1 (by decide) (by decide) ⟨by decide, by decide⟩
    have g12 := f 1 2 (by decide) (by decide) ⟨by decide, by decide⟩
    have g21 := f 2 1 (by decide) (by decide) ⟨by decide, by decide⟩
    have g10 := f 1 0 (by decide) (by decide) ⟨by decide, by decide⟩
    have g00 := f 0 0 (by decide) (by decide) ⟨by decide, by decide⟩
    rw [e22] at g22
    rw [e11] at g11
    rw [e12] at g12
    rw [e21] at g21
    rw [e10] at g10
    rw [e00] at g00
    exact ⟨g22, g11, g12, g21, g10, g00⟩
  have HCS : Hid (cs.size = zc.size) := by show _ = _; rw [zc_size]; exact hfu.1.1
  have HC2 : Hid ((Try.prog.info? 73).map (·.size) = some cs.size) := by show _ = _; rw [size_tab, hfu.1.1]
  clear hfu hb2 e22 e11 e12 e21 e10 e00
  go_wp2_with (first
    | (refine wpList_alloc_big _ rfl 73 rfl zc zero_tab ?_)
    | (refine wpList_store_big rfl 73 _ _ rfl w2.heap.size cs zc 73 rfl rfl (Bk.nw _ _ _) HCS.out HC2.out HTB.out.one ?_; intro W HBK HBE))
  have HWB : Hid (Bel w W) := HBE.out w (HB2.out.al _) HB2.out.size
  have hT0 := HB2.out.size
  obtain ⟨T, hTT⟩ : ∃ T, w2.heap.size = T := ⟨_, rfl⟩
  rw [hTT] at HBK hT0
  have HR0 : Hid (Al2 w T cs W (.slice none 0 0) (.int .i64 2) (.int .i64 2)) := ⟨_, _, [], rfl, rfl, .inl ⟨rfl, rfl, rfl⟩, World.ownsRow_nil _ _ _ _, HWB.out, HBK.out, HBK.out.lt⟩
  clear HBE HBK HWB
  try rw [hTT]
  go_loopw [10, 11, 12] (fun s10 s11 s12 wr => Al2 w T cs wr s10 s11 s12) (fun _ s11 s12 _ => (intOf s11).toNat + (intOf s12).toNat)
  case atStart => exact HR0.out
  case round =>
    clear HR0
    obtain ⟨wr, u, S, hwr, hu, hst, hown, hb, hk, hbase⟩ := hrel
    subst hwr hu
    have HO := Lib.hid hown
    have HB := Lib.hid hb
    have HK := Lib.hid hk
    have k68 : wr.cell? ⟨T, 68, none⟩ = some (.int .i64 0) := (hk.cell _).trans HFC.out.1
    have k34 : wr.cell? ⟨T, 34, none⟩ = some (.int .i64 3) := (hk.cell _).trans HFC.out.2.1
    have k35 : wr.cell? ⟨T, 35, none⟩ = some (.int .i64 3) := (hk.cell _).trans HFC.out.2.2.1
    have k67 : wr.cell? ⟨T, 67, none⟩ = some (.int .i64 0) := (hk.cell _).trans HFC.out.2.2.2.1
    have k33 : wr.cell? ⟨T, 33, none⟩ = some (.int .i64 0) := (hk.cell _).trans HFC.out.2.2.2.2.1
    have k00 : wr.cell? ⟨T, 0, none⟩ = some (.int .i64 0) := (hk.cell _).trans HFC.out.2.2.2.2.2
    have x0 : wr.cell? ⟨hx, 0, none⟩ = some (.int .i64 0) := (H1.out.bel hb).at 0 (by decide)
    have x1 : wr.cell? ⟨hx, 1, none⟩ = some (.int .i64 3) := (H1.out.bel hb).at 1 (by decide)
    have y0 : wr.cell? ⟨hy, 0, none⟩ = some (.int .i64 3) := (H2.out.bel hb).at 0 (by decide)
    have y1 : wr.cell? ⟨hy, 1, none⟩ = some (.int .i64 0) := (H2.out.bel hb).at 1 (by decide)
    clear hown hb hk
    rcases hst with ⟨rfl, rfl, rfl⟩ | ⟨rfl, rfl, rfl⟩ | ⟨rfl, rfl, rfl⟩ | ⟨rfl, rfl, rfl⟩
    · go_wp2_with fail
      go_region_held3 (fun w' => w'.cell? ⟨T, 68, none⟩ = some (.int .i64 0) ∧ w'.cell? ⟨T, 34, none⟩ = some (.int .i64 3) ∧ w'.cell? ⟨hx, 1, none⟩ = some (.int .i64 3) ∧ w'.cell? ⟨hy, 1, none⟩ = some (.int .i64 0))
        ((refine ⟨?_, ?_, ?_, ?_⟩) <;> (repeat (first | exact k68 | exact k34 | exact x1 | exact y1 | (with_reducible refine kp_drwN ?_ _) | (with_reducible refine kp_drw ?_))))
        (first | (go_at_call 43; first
          | ((with_reducible refine (AB3.out _).mono ?_); rintro e' w9 ⟨rfl, rfl⟩)
          | ((with_reducible refine (AB0.out _).mono ?_); rintro e' w9 ⟨rfl, rfl⟩)))
      go_wp2_with fail
      go_region_held3 (fun w' => w'.cell? ⟨T, 68, none⟩ = some (.int .i64 0) ∧ w'.cell? ⟨T, 35, none⟩ = some (.int .i64 3) ∧ w'.cell? ⟨hx, 1, none⟩ = some (.int .i64 3))
        ((refine ⟨?_, ?_, ?_⟩) <;> (repeat (first | exact k68 | exact k35 | exact x1 | (with_reducible refine kp_drwN ?_ _) | (with_reducible refine kp_drw ?_))))
        (first | (go_at_call 43; first
          | ((with_reducible refine (AB3.out _).mono ?_); rintro e' w9 ⟨rfl, rfl⟩)
          | ((with_reducible refine (AB0.out _).mono ?_); rintro e' w9 ⟨rfl, rfl⟩)))
      go_wp2_with (at_builtin; refine wpList_append_lies _ (by rfl) _ _ 22 (by rfl) (T + 1) 3 i0 _ 1 8 Try.underlying22 HI.out.1 HI.out.2.1 HI.out.2.2.1 HI.out.2.2.2 (by rfl) (by omega) u 0 (zs []) (by rfl) ((own_bel HO.out (by repeat (first | exact Bel.rf | (with_reducible refine Bel.drwN ?_ _) | (with_reducible refine Bel.drw ?_) | (with_reducible refine Bel.al ?_ _)))).alloc _) ⟨wr.heap.size, 0, none⟩ 1 1 [.int .i64 3] (by rfl) (by rfl) (World.news_of_block (cs := #[.int .i64 3]) (t := 3) (fr := (0, 0)) (heap_alloc_new _ _)) (by simp [Value.oneCell']) (by omega) (by unfold maxLen; omega) (by omega) (by simp; omega) (wr.heap.size + 1) (by simp) ?_; intro h' cap' w5 hown4 hgrow hat hlt4)
      have hst := al2_step HB.out HK.out (by omega) hT0 hbase HO.out (wq := _) (by repeat (first | exact Bel.rf | (with_reducible refine Bel.drwN ?_ _) | (with_reducible refine Bel.drw ?_) | (with_reducible refine Bel.al ?_ _))) hgrow
      have HST := Lib.hid hst
      have HOW := Lib.hid hown4
      clear hst hown4 hgrow hat
      go_wp2
      go_roundw
      case rel => exact ⟨_, _, [3], rfl, rfl, .inr (.inl ⟨rfl, rfl, rfl⟩), HOW.out, HST.out.1, HST.out.2.1, HST.out.2.2⟩
      case measure => simp [intOf]
    · go_wp2_with fail
      go_region_held3 (fun w' => w'.cell? ⟨T, 67, none⟩ = some (.int .i64 0) ∧ w'.cell? ⟨T, 33, none⟩ = some (.int .i64 0) ∧ w'.cell? ⟨hx, 1, none⟩ = some (.int .i64 3) ∧ w'.cell? ⟨hy, 0, none⟩ = some (.int .i64 3))
        ((refine ⟨?_, ?_, ?_, ?_⟩) <;> (repeat (first | exact k67 | exact k33 | exact x1 | exact y0 | (with_reducible refine kp_drwN ?_ _) | (with_reducible refine kp_drw ?_))))
        (first | (go_at_call 43; first
          | ((with_reducible refine (AB3.out _).mono ?_); rintro e' w9 ⟨rfl, rfl⟩)
          | ((with_reducible refine (AB0.out _).mono ?_); rintro e' w9 ⟨rfl, rfl⟩)))
      go_wp2_with (at_builtin; refine wpList_append_lies _ (by rfl) _ _ 22 (by rfl) (T + 1) 3 i0 _ 1 8 Try.underlying22 HI.out.1 HI.out.2.1 HI.out.2.2.1 HI.out.2.2.2 (by rfl) (by omega) u 1 (zs [3]) (by rfl) ((own_bel HO.out (by repeat (first | exact Bel.rf | (with_reducible refine Bel.drwN ?_ _) | (with_reducible refine Bel.drw ?_) | (with_reducible refine Bel.al ?_ _)))).alloc _) ⟨wr.heap.size, 0, none⟩ 1 1 [.int .i64 1] (by rfl) (by rfl) (World.news_of_block (cs := #[.int .i64 1]) (t := 3) (fr := (0, 0)) (heap_alloc_new _ _)) (by simp [Value.oneCell']) (by omega) (by unfold maxLen; omega) (by omega) (by simp; omega) (wr.heap.size + 1) (by simp) ?_; intro h' cap' w5 hown4 hgrow hat hlt4)
      have hst := al2_step HB.out HK.out (by omega) hT0 hbase HO.out (wq := _) (by repeat (first | exact Bel.rf | (with_reducible refine Bel.drwN ?_ _) | (with_reducible refine Bel.drw ?_) | (with_reducible refine Bel.al ?_ _))) hgrow
      have HST := Lib.hid hst
      have HOW := Lib.hid hown4
      clear hst hown4 hgrow hat
      go_wp2
      go_roundw
      case rel => exact ⟨_, _, [3, 1], rfl, rfl, .inr (.inr (.inl ⟨rfl, rfl, rfl⟩)), HOW.out, HST.out.1, HST.out.2.1, HST.out.2.2⟩
      case measure => simp [intOf]
    · go_wp2_with fail
      go_quiet (fail)
      go_wp2_with fail
      go_region_held3 (fun w' => w'.cell? ⟨T, 33, none⟩ = some (.int .i64 0) ∧ w'.cell? ⟨T, 0, none⟩ = some (.int .i64 0) ∧ w'.cell? ⟨hx, 0, none⟩ = some (.int .i64 0))
        ((refine ⟨?_, ?_, ?_⟩) <;> (repeat (first | exact k33 | exact k00 | exact x0 | (with_reducible refine kp_drwN ?_ _) | (with_reducible refine kp_drw ?_))))
        (first | (go_at_call 43; first
          | ((with_reducible refine (AB3.out _).mono ?_); rintro e' w9 ⟨rfl, rfl⟩)
          | ((with_reducible refine (AB0.out _).mono ?_); rintro e' w9 ⟨rfl, rfl⟩)))
      go_wp2_with (at_builtin; refine wpList_append_lies _ (by rfl) _ _ 22 (by rfl) (T + 1) 3 i0 _ 1 8 Try.underlying22 HI.out.1 HI.out.2.1 HI.out.2.2.1 HI.out.2.2.2 (by rfl) (by omega) u 2 (zs [3, 1]) (by rfl) ((own_bel HO.out (by repeat (first | exact Bel.rf | (with_reducible refine Bel.drwN ?_ _) | (with_reducible refine Bel.drw ?_) | (with_reducible refine Bel.al ?_ _)))).alloc _) ⟨wr.heap.size, 0, none⟩ 1 1 [.int .i64 2] (by rfl) (by rfl) (World.news_of_block (cs := #[.int .i64 2]) (t := 3) (fr := (0, 0)) (heap_alloc_new _ _)) (by simp [Value.oneCell']) (by omega) (by unfold maxLen; omega) (by omega) (by simp; omega) (wr.heap.size + 1) (by simp) ?_; intro h' cap' w5 hown4 hgrow hat hlt4)
      have hst := al2_step HB.out HK.out (by omega) hT0 hbase HO.out (wq := _) (by repeat (first | exact Bel.rf | (with_reducible refine Bel.drwN ?_ _) | (with_reducible refine Bel.drw ?_) | (with_reducible refine Bel.al ?_ _))) hgrow
      have HST := Lib.hid hst
      have HOW := Lib.hid hown4
      clear hst hown4 hgrow hat
      go_wp2
      go_roundw
      case rel => exact ⟨_, _, [3, 1, 2], rfl, rfl, .inr (.inr (.inr ⟨rfl, rfl, rfl⟩)), HOW.out, HST.out.1, HST.out.2.1, HST.out.2.2⟩
      case measure => simp [intOf]
    · obtain ⟨h, cc, rfl, hcc, hh⟩ := row_form HO.out (by decide)
      have RV3 := Lib.hid (reverse3 (T + 1) h cc 3 1 2 wr w HO.out HB.out (by omega))
      clear k68 k34 k35 k67 k33 k00 x0 x1 y0 y1
      go_wp2_with fail
      go_at_call 52
      refine RV3.out.mono ?_
      rintro e w9 ⟨rfl, ho, hb⟩
      have HO9 := Lib.hid ho
      have HB9 := Lib.hid hb
      clear ho hb
      go_wp2
      go_ret2
      exact ⟨h, cc, rfl, own_zi HO9.out rfl, HB9.out⟩
end Go.Proofs.Ytkjffielnmdpcaa.Ed
