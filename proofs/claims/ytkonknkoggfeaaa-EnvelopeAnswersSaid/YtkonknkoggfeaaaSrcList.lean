/- The contract of shapesearchkeep.List: a new list of so many samples. -/
import Derived.Test.YtkonknkoggfeaaaSrcP0
import Derived.Test.YtkonknkoggfeaaaSrcR0
import Derived.Test.YtkonknkoggfeaaaWinMath
import Derived.Deep.AppendLies
namespace Go.Proofs.Ytkonknkoggfeaaa.Sr
open Go.ChangeShapes Go.WideShapes Go.RowKit Wo Wi
set_option linter.unusedVariables false
/-- numbers as values -/
def zs (L : List Int) : List Value := L.map (Value.int .i64)
theorem zs_len (L : List Int) : (zs L).length = L.length := by simp [zs]
theorem zs_app (L M : List Int) : zs (L ++ M) = zs L ++ zs M := by simp [zs]
theorem zs_at {L : List Int} {j : Nat} (h : j < L.length) : (zs L)[j]? = some (.int .i64 (L.getD j 0)) := by simp [zs, List.getD_eq_getElem?_getD, h]
theorem info_int : (Try.prog.info? 3).map (fun i => (i.zero, i.size, i.bytes)) = some (some (.int .i64 0), 1, 8) := by kernel_rfl
theorem ok_grown {w w' : World} {g : Nat} {row : Option Nat} (h : Ok w g) (hg : w.grownBy w' row) (hr : ∀ b, row = some b → g < b) : Ok w' g := by
  obtain ⟨A, n, c, k, zs, h1, h2, h3, h4, h5⟩ := h
  refine ⟨A, n, c, k, zs, (hg.block g h1.lt (fun e => by have := hr _ e.symm; omega)).trans h1, h2, h3, h4, fun hn => ?_⟩
  obtain ⟨x, e, hx, hc⟩ := h5 hn
  exact ⟨x, e, hx, fun i hi => World.grownBy.cell hg (hc i hi) (fun e => by have := hr _ e.symm; rw [add_block] at this; omega)⟩
theorem ch_grown {a b c : World} {g : Nat} {row : Option Nat} (h : Ch g a b) (hg : b.grownBy c row) (hr : ∀ q, row = some q → a.heap.size ≤ q) : Ch g a c :=
  ⟨hg.os.trans h.os, hg.tape.trans h.tape, hg.output.trans h.output, Nat.le_trans h.size hg.size, fun i hi hn => (hg.block i (Nat.lt_of_lt_of_le hi h.size) (fun e => by have := hr _ e.symm; omega)).trans (h.block i hi hn)⟩
theorem sam_snoc {L : List Int} (h : Sam L) {y : Int} (h1 : -1000 ≤ y) (h2 : y ≤ 1000) : Sam (L ++ [y]) := by
  intro p hp
  rcases List.mem_append.1 hp with h' | h'
  · exact h p h'
  · simp at h'; subst h'; exact ⟨h1, h2⟩
/-- k samples have been appended -/
def LI (n : Int) (g base : Nat) (w : World) (s7 s8 s9 : Value) (wr : World) : Prop := ∃ (k : Nat) (L : List Int) (x : Int) (V : World) (u : Value), V = wr ∧ u = s8 ∧ (k : Int) ≤ n ∧ s9 = .int .i64 (k : Int) ∧ s7 = .int .i64 x ∧ (-1000 ≤ x ∧ x ≤ 1000) ∧
  wr.ownsRow base 3 1 s8 k (zs L) ∧ L.length = k ∧ Sam L ∧ Ok wr g ∧ Ch g w wr ∧ base ≤ wr.heap.size
theorem li_step {n : Int} {g k h cap : Nat} {w wr w1 w2 : World} {s8 : Value} {L : List Int} {x y : Int} (hgb : g < w.heap.size) (hk : (k : Int) < n) (hL : L.length = k) (hv : Sam L) (hy0 : -1000 ≤ y) (hy1 : y ≤ 1000)
    (hown : wr.ownsRow w.heap.size 3 1 s8 k (zs L)) (hx : -1000 ≤ x ∧ x ≤ 1000) (ho1 : Ok w1 g) (hc1 : Ch g wr w1) (hb : Ch g w wr) (hbase : w.heap.size ≤ wr.heap.size)
    (hown2 : w2.ownsRow w.heap.size 3 1 (.slice (some ⟨h, 0, none⟩) (k + 1) cap) (k + 1) (zs L ++ [.int .i64 y])) (hgr : (w1.alloc (.cells #[.int .i64 y] 3)).grownBy w2 s8.ownBlock) :
    LI n g w.heap.size w (.int .i64 x) (.slice (some ⟨h, 0, none⟩) (k + 1) cap) (.int .i64 ((k : Int) + 1)) w2 := by
  have hrow : ∀ b, s8.ownBlock = some b → w.heap.size ≤ b := fun b e => (hown.lt b e).1
  refine ⟨k + 1, L ++ [y], x, _, _, rfl, rfl, by omega, by congr 1, rfl, hx, by rw [zs_app]; exact hown2, by simp [hL], sam_snoc hv hy0 hy1, ?_, ?_, ?_⟩
  · exact ok_grown (ho1.bel (Bel.rf.al _)) hgr (fun b e => by have := hrow b e; omega)
  · exact ch_grown ((hb.tr hc1).al _) hgr hrow
  · have := hgr.size
    have := hc1.sz
    simp at *
    omega
theorem clip_any (n : Int) (h0 : -4000 ≤ n) (h1 : n ≤ 4000) (w : World) : Calls Try.prog 57 #[.int .i64 n] w fun e w' => (∃ y, e = .returned (.int .i64 y) ∧ -1000 ≤ y ∧ y ≤ 1000) ∧ w = w' := by
  rcases Int.lt_trichotomy n (-1000) with h | rfl | h
  · go_enter Try.func57, Try.ntmps57
    go_wp2
    go_ret
    exact ⟨⟨_, rfl, by omega, by omega⟩, rfl⟩
  · go_enter Try.func57, Try.ntmps57
    go_wp2
    go_ret
    exact ⟨⟨_, rfl, by omega, by omega⟩, rfl⟩
  · rcases Int.lt_trichotomy n 1000 with h' | rfl | h'
    all_goals
      go_enter Try.func57, Try.ntmps57
      go_wp2
      go_ret
      exact ⟨⟨_, rfl, by omega, by omega⟩, rfl⟩
def SomeList (g n : Nat) (w : World) (e : Ending) (w' : World) : Prop := ∃ (v : Value) (L : List Int), e = .returned v ∧ w'.ownsRow w.heap.size 3 1 v n (zs L) ∧ L.length = n ∧ Sam L ∧ Ok w' g ∧ Ch g w w'
set_option maxHeartbeats 16000000 in
set_option maxRecDepth 100000 in
theorem list_any (g n0 : Nat) (hn : n0 ≤ 1000) (w : World) (h : Ok w g) :
    Calls Try.prog 39 #[.pointer (some ⟨g, 0, none⟩), .int .i64 (n0 : Int)] w (SomeList g n0 w) := by
  obtain ⟨i0, hi0, hz0, hz1, hz2⟩ := info_parts info_int
  have HI := Lib.hid (And.intro hi0 (And.intro hz0 (And.intro hz1 hz2)))
  clear hi0 hz0 hz1 hz2
  obtain ⟨n, hnn⟩ : ∃ n, (n0 : Int) = n := ⟨_, rfl⟩
  have n1 : 0 ≤ n := by omega
  have n2 : n ≤ 1000 := by omega
  rw [hnn]
  have HNN := Lib.hid hnn
  have HGB := Lib.hid h.lt
  have HO0 := Lib.hid h
  clear h hnn hn
  go_enter Try.func39, Try.ntmps39
  go_wp2_with fail
  go_at_call 20
  refine (n_any g 6 (by decide) (by decide) _ HO0.out).mono ?_
  rintro e w1 ⟨kd, rfl, kd0, kd1, ho, hc⟩
  have HO1 := Lib.hid ho
  have HC1 := Lib.hid hc
  clear ho hc
  go_wp2_with fail
  go_at_call 21
  refine (pick_any g w1.heap.size [1, 3, 10, 100, 1000] 5 (by rfl) (by decide) (by decide) (by have := HGB.out; have := HC1.out.sz; omega) _ (HO1.out.bel (Bel.rf.al _)) (lst_new _ _ _ _ (by rfl) _ rfl)).mono ?_
  rintro e w2 ⟨sz, rfl, hsz, ho, hc⟩
  have hs1 : 1 ≤ sz ∧ sz ≤ 1000 := by simp at hsz; omega
  obtain ⟨sz0, sz1⟩ := hs1
  have HO2 := Lib.hid ho
  have HC2 : Hid (Ch g w w2) := (HC1.out.al _).tr hc
  clear ho hc hsz
  go_wp2_with fail
  go_at_call 20
  refine (n_any g 3 (by decide) (by decide) _ HO2.out).mono ?_
  rintro e w3 ⟨b, rfl, bd0, bd1, ho, hc⟩
  have HO3 := Lib.hid ho
  have HC3 : Hid (Ch g w w3) := HC2.out.tr hc
  clear ho hc
  have HB : (∃ x, -1000 ≤ x ∧ x ≤ 1000) := ⟨0, by decide, by decide⟩
  rcases (show b = 0 ∨ b ≠ 0 by omega) with rfl | hb
  · go_wp2_with fail
    go_at_call 16
    refine (range_any g (-1000) 1000 (by decide) (by decide) (by decide) _ HO3.out).mono ?_
    rintro e w4 ⟨x0, rfl, x00, x01, ho, hc⟩
    have HO4 := Lib.hid ho
    have HC4 : Hid (Ch g w w4) := HC3.out.tr hc
    clear ho hc
    go_wp2
    have HR0 : Hid (LI n g w.heap.size w (.int .i64 x0) (.slice none 0 0) (.int .i64 0) w4) :=
      ⟨0, [], x0, _, _, rfl, rfl, by omega, rfl, rfl, ⟨x00, x01⟩, World.ownsRow_nil _ _ _ _, rfl, by simp [Sam], HO4.out, HC4.out, HC4.out.sz⟩
    go_loopw [7, 8, 9] (fun s7 s8 s9 wr => LI n g w.heap.size w s7 s8 s9 wr) (fun _ _ s9 _ => n.toNat - (intOf s9).toNat)
    case atStart => exact HR0.out
    case round =>
      clear HR0
      obtain ⟨k, L, x, wr, u8, hwr, hu8, hk, rfl, rfl, hx, hown, hL, hv, hog, hcw, hbase⟩ := hrel
      subst hwr hu8
      have HO := Lib.hid hown
      have HL := Lib.hid hL
      have HV := Lib.hid hv
      have HG := Lib.hid hog
      have HCW := Lib.hid hcw
      have HX := Lib.hid hx
      obtain ⟨x0', x1'⟩ := hx
      clear hown hL hv hog hcw
      rcases Int.lt_or_le (k : Int) n with hki | hneg
      · rcases (show (kd = 0 ∨ kd = 1) ∨ (kd = 2 ∨ kd = 3) ∨ kd = 4 ∨ kd = 5 by omega) with (rfl | rfl) | (rfl | rfl) | rfl | rfl
        · skip
          go_wp2_with fail
          go_at_call 16
          refine (range_any g (-sz) sz (by omega) (by omega) (by omega) _ HG.out).mono ?_
          rintro e w6 ⟨y, rfl, y0, y1, ho, hc⟩
          have HOK := Lib.hid ho
          have HCK : Hid (Ch g wr w6) := hc
          clear ho hc
          have hown1 := HO.out.kept (HCK.out) (by
            rcases hob : u8.ownBlock with _ | q
            · exact .inl rfl
            · exact .inr (fun e => by injection e with e; have := (HO.out.lt q hob).1; have := HGB.out; omega))
          have hsz := Ch.sz (HCK.out)
          have hgb := HGB.out
          have HOW := Lib.hid hown1
          clear hown1
          go_wp2_with (at_builtin; refine wpList_append_lies _ (by rfl) _ _ 22 (by rfl) w.heap.size 3 i0 _ 1 8 Try.underlying22 HI.out.1 HI.out.2.1 HI.out.2.2.1 HI.out.2.2.2 (by rfl) (by omega) u8 k (zs L) (by rfl) (HOW.out.alloc _) ⟨w6.heap.size, 0, none⟩ 1 1 [.int .i64 (y)] (by rfl) (by rfl) (World.news_of_block (cs := #[.int .i64 (y)]) (t := 3) (fr := (0, 0)) (heap_alloc_new w6 _)) (by simp [Value.oneCell']) (by omega) (by unfold maxLen; omega) (by omega) (by simp; omega) (w6.heap.size + 1) (by simp) ?_; intro h cap w5 hown4 hgrow hat hlt4)
          have hstep := li_step (n := n) (y := y) hgb hki HL.out HV.out (by omega) (by omega) HO.out HX.out (HOK.out) (HCK.out) HCW.out hbase hown4 hgrow
          have HST := Lib.hid hstep
          clear hstep hown4 hgrow hat
          go_wp2
          go_roundw
          case rel => exact HST.out
          case measure => simp [intOf]; omega
        · skip
          go_wp2_with fail
          go_at_call 16
          refine (range_any g (-sz) sz (by omega) (by omega) (by omega) _ HG.out).mono ?_
          rintro e w6 ⟨y, rfl, y0, y1, ho, hc⟩
          have HOK := Lib.hid ho
          have HCK : Hid (Ch g wr w6) := hc
          clear ho hc
          have hown1 := HO.out.kept (HCK.out) (by
            rcases hob : u8.ownBlock with _ | q
            · exact .inl rfl
            · exact .inr (fun e => by injection e with e; have := (HO.out.lt q hob).1; have := HGB.out; omega))
          have hsz := Ch.sz (HCK.out)
          have hgb := HGB.out
          have HOW := Lib.hid hown1
          clear hown1
          go_wp2_with (at_builtin; refine wpList_append_lies _ (by rfl) _ _ 22 (by rfl) w.heap.size 3 i0 _ 1 8 Try.underlying22 HI.out.1 HI.out.2.1 HI.out.2.2.1 HI.out.2.2.2 (by rfl) (by omega) u8 k (zs L) (by rfl) (HOW.out.alloc _) ⟨w6.heap.size, 0, none⟩ 1 1 [.int .i64 (y)] (by rfl) (by rfl) (World.news_of_block (cs := #[.int .i64 (y)]) (t := 3) (fr := (0, 0)) (heap_alloc_new w6 _)) (by simp [Value.oneCell']) (by omega) (by unfold maxLen; omega) (by omega) (by simp; omega) (w6.heap.size + 1) (by simp) ?_; intro h cap w5 hown4 hgrow hat hlt4)
          have hstep := li_step (n := n) (y := y) hgb hki HL.out HV.out (by omega) (by omega) HO.out HX.out (HOK.out) (HCK.out) HCW.out hbase hown4 hgrow
          have HST := Lib.hid hstep
          clear hstep hown4 hgrow hat
          go_wp2
          go_roundw
          case rel => exact HST.out
          case measure => simp [intOf]; omega
        · skip
          go_wp2_with fail
          go_at_call 16
          refine (range_any g (-sz) sz (by omega) (by omega) (by omega) _ HG.out).mono ?_
          rintro e w6 ⟨y, rfl, y0, y1, ho, hc⟩
          have HOK := Lib.hid ho
          have HCK : Hid (Ch g wr w6) := hc
          clear ho hc
          go_wp2_with fail
          go_at_call 57
          refine (clip_any (x + y) (by omega) (by omega) _).mono ?_
          rintro e w7 ⟨⟨z, rfl, z0, z1⟩, rfl⟩
          have HX := Lib.hid (And.intro z0 z1)
          have hown1 := HO.out.kept (HCK.out) (by
            rcases hob : u8.ownBlock with _ | q
            · exact .inl rfl
            · exact .inr (fun e => by injection e with e; have := (HO.out.lt q hob).1; have := HGB.out; omega))
          have hsz := Ch.sz (HCK.out)
          have hgb := HGB.out
          have HOW := Lib.hid hown1
          clear hown1
          go_wp2_with (at_builtin; refine wpList_append_lies _ (by rfl) _ _ 22 (by rfl) w.heap.size 3 i0 _ 1 8 Try.underlying22 HI.out.1 HI.out.2.1 HI.out.2.2.1 HI.out.2.2.2 (by rfl) (by omega) u8 k (zs L) (by rfl) (HOW.out.alloc _) ⟨w6.heap.size, 0, none⟩ 1 1 [.int .i64 (z)] (by rfl) (by rfl) (World.news_of_block (cs := #[.int .i64 (z)]) (t := 3) (fr := (0, 0)) (heap_alloc_new w6 _)) (by simp [Value.oneCell']) (by omega) (by unfold maxLen; omega) (by omega) (by simp; omega) (w6.heap.size + 1) (by simp) ?_; intro h cap w5 hown4 hgrow hat hlt4)
          have hstep := li_step (n := n) (y := z) hgb hki HL.out HV.out (by omega) (by omega) HO.out HX.out (HOK.out) (HCK.out) HCW.out hbase hown4 hgrow
          have HST := Lib.hid hstep
          clear hstep hown4 hgrow hat
          go_wp2
          go_roundw
          case rel => exact HST.out
          case measure => simp [intOf]; omega
        · skip
          go_wp2_with fail
          go_at_call 16
          refine (range_any g (-sz) sz (by omega) (by omega) (by omega) _ HG.out).mono ?_
          rintro e w6 ⟨y, rfl, y0, y1, ho, hc⟩
          have HOK := Lib.hid ho
          have HCK : Hid (Ch g wr w6) := hc
          clear ho hc
          go_wp2_with fail
          go_at_call 57
          refine (clip_any (x + y) (by omega) (by omega) _).mono ?_
          rintro e w7 ⟨⟨z, rfl, z0, z1⟩, rfl⟩
          have HX := Lib.hid (And.intro z0 z1)
          have hown1 := HO.out.kept (HCK.out) (by
            rcases hob : u8.ownBlock with _ | q
            · exact .inl rfl
            · exact .inr (fun e => by injection e with e; have := (HO.out.lt q hob).1; have := HGB.out; omega))
          have hsz := Ch.sz (HCK.out)
          have hgb := HGB.out
          have HOW := Lib.hid hown1
          clear hown1
          go_wp2_with (at_builtin; refine wpList_append_lies _ (by rfl) _ _ 22 (by rfl) w.heap.size 3 i0 _ 1 8 Try.underlying22 HI.out.1 HI.out.2.1 HI.out.2.2.1 HI.out.2.2.2 (by rfl) (by omega) u8 k (zs L) (by rfl) (HOW.out.alloc _) ⟨w6.heap.size, 0, none⟩ 1 1 [.int .i64 (z)] (by rfl) (by rfl) (World.news_of_block (cs := #[.int .i64 (z)]) (t := 3) (fr := (0, 0)) (heap_alloc_new w6 _)) (by simp [Value.oneCell']) (by omega) (by unfold maxLen; omega) (by omega) (by simp; omega) (w6.heap.size + 1) (by simp) ?_; intro h cap w5 hown4 hgrow hat hlt4)
          have hstep := li_step (n := n) (y := z) hgb hki HL.out HV.out (by omega) (by omega) HO.out HX.out (HOK.out) (HCK.out) HCW.out hbase hown4 hgrow
          have HST := Lib.hid hstep
          clear hstep hown4 hgrow hat
          go_wp2
          go_roundw
          case rel => exact HST.out
          case measure => simp [intOf]; omega
        · skip
          go_wp2_with fail
          go_at_call 20
          refine (n_any g 4 (by decide) (by decide) _ HG.out).mono ?_
          rintro e w6 ⟨b4, rfl, b40, b41, ho, hc⟩
          have HOK := Lib.hid ho
          have HCK := Lib.hid hc
          clear ho hc
          rcases (show b4 = 0 ∨ b4 ≠ 0 by omega) with rfl | hb4
          · skip
            go_wp2_with fail
            go_at_call 16
            refine (range_any g (-sz) sz (by omega) (by omega) (by omega) _ HOK.out).mono ?_
            rintro e w7 ⟨y, rfl, y0, y1, ho, hc⟩
            have HOK := Lib.hid ho
            have HCK : Hid (Ch g wr w7) := HCK.out.tr hc
            clear ho hc
            have HX : Hid (-1000 ≤ y ∧ y ≤ 1000) := ⟨by omega, by omega⟩
            have hown1 := HO.out.kept (HCK.out) (by
              rcases hob : u8.ownBlock with _ | q
              · exact .inl rfl
              · exact .inr (fun e => by injection e with e; have := (HO.out.lt q hob).1; have := HGB.out; omega))
            have hsz := Ch.sz (HCK.out)
            have hgb := HGB.out
            have HOW := Lib.hid hown1
            clear hown1
            go_wp2_with (at_builtin; refine wpList_append_lies _ (by rfl) _ _ 22 (by rfl) w.heap.size 3 i0 _ 1 8 Try.underlying22 HI.out.1 HI.out.2.1 HI.out.2.2.1 HI.out.2.2.2 (by rfl) (by omega) u8 k (zs L) (by rfl) (HOW.out.alloc _) ⟨w7.heap.size, 0, none⟩ 1 1 [.int .i64 (y)] (by rfl) (by rfl) (World.news_of_block (cs := #[.int .i64 (y)]) (t := 3) (fr := (0, 0)) (heap_alloc_new w7 _)) (by simp [Value.oneCell']) (by omega) (by unfold maxLen; omega) (by omega) (by simp; omega) (w7.heap.size + 1) (by simp) ?_; intro h cap w5 hown4 hgrow hat hlt4)
            have hstep := li_step (n := n) (y := y) hgb hki HL.out HV.out (by omega) (by omega) HO.out HX.out (HOK.out) (HCK.out) HCW.out hbase hown4 hgrow
            have HST := Lib.hid hstep
            clear hstep hown4 hgrow hat
            go_wp2
            go_roundw
            case rel => exact HST.out
            case measure => simp [intOf]; omega
          · skip
            have hown1 := HO.out.kept (HCK.out) (by
              rcases hob : u8.ownBlock with _ | q
              · exact .inl rfl
              · exact .inr (fun e => by injection e with e; have := (HO.out.lt q hob).1; have := HGB.out; omega))
            have hsz := Ch.sz (HCK.out)
            have hgb := HGB.out
            have HOW := Lib.hid hown1
            clear hown1
            go_wp2_with (at_builtin; refine wpList_append_lies _ (by rfl) _ _ 22 (by rfl) w.heap.size 3 i0 _ 1 8 Try.underlying22 HI.out.1 HI.out.2.1 HI.out.2.2.1 HI.out.2.2.2 (by rfl) (by omega) u8 k (zs L) (by rfl) (HOW.out.alloc _) ⟨w6.heap.size, 0, none⟩ 1 1 [.int .i64 (x)] (by rfl) (by rfl) (World.news_of_block (cs := #[.int .i64 (x)]) (t := 3) (fr := (0, 0)) (heap_alloc_new w6 _)) (by simp [Value.oneCell']) (by omega) (by unfold maxLen; omega) (by omega) (by simp; omega) (w6.heap.size + 1) (by simp) ?_; intro h cap w5 hown4 hgrow hat hlt4)
            have hstep := li_step (n := n) (y := x) hgb hki HL.out HV.out (by omega) (by omega) HO.out HX.out (HOK.out) (HCK.out) HCW.out hbase hown4 hgrow
            have HST := Lib.hid hstep
            clear hstep hown4 hgrow hat
            go_wp2
            go_roundw
            case rel => exact HST.out
            case measure => simp [intOf]; omega
        · skip
          go_wp2_with fail
          go_at_call 21
          refine (pick_any g wr.heap.size [-1000, 1000, 1000, 0] 4 (by rfl) (by decide) (by decide) (by have := HGB.out; have := HCW.out.sz; omega) _ (HG.out.bel (Bel.rf.al _)) (lst_new _ _ _ _ (by rfl) _ rfl)).mono ?_
          rintro e w6 ⟨y, rfl, hy, ho, hc⟩
          have hy1 : -1000 ≤ y ∧ y ≤ 1000 := by simp at hy; omega
          obtain ⟨y0, y1⟩ := hy1
          have HOK := Lib.hid ho
          have HCK : Hid (Ch g wr w6) := (Ch.rf.al _).tr hc
          clear ho hc hy
          have hown1 := HO.out.kept (HCK.out) (by
            rcases hob : u8.ownBlock with _ | q
            · exact .inl rfl
            · exact .inr (fun e => by injection e with e; have := (HO.out.lt q hob).1; have := HGB.out; omega))
          have hsz := Ch.sz (HCK.out)
          have hgb := HGB.out
          have HOW := Lib.hid hown1
          clear hown1
          go_wp2_with (at_builtin; refine wpList_append_lies _ (by rfl) _ _ 22 (by rfl) w.heap.size 3 i0 _ 1 8 Try.underlying22 HI.out.1 HI.out.2.1 HI.out.2.2.1 HI.out.2.2.2 (by rfl) (by omega) u8 k (zs L) (by rfl) (HOW.out.alloc _) ⟨w6.heap.size, 0, none⟩ 1 1 [.int .i64 (y)] (by rfl) (by rfl) (World.news_of_block (cs := #[.int .i64 (y)]) (t := 3) (fr := (0, 0)) (heap_alloc_new w6 _)) (by simp [Value.oneCell']) (by omega) (by unfold maxLen; omega) (by omega) (by simp; omega) (w6.heap.size + 1) (by simp) ?_; intro h cap w5 hown4 hgrow hat hlt4)
          have hstep := li_step (n := n) (y := y) hgb hki HL.out HV.out (by omega) (by omega) HO.out HX.out (HOK.out) (HCK.out) HCW.out hbase hown4 hgrow
          have HST := Lib.hid hstep
          clear hstep hown4 hgrow hat
          go_wp2
          go_roundw
          case rel => exact HST.out
          case measure => simp [intOf]; omega
      · obtain rfl : n = (k : Int) := by omega
        have hnk : n0 = k := by have := HNN.out; omega
        subst hnk
        go_wp2
        go_ret
        exact ⟨_, L, rfl, HO.out, HL.out, HV.out, HG.out, HCW.out⟩
  · have bz : (b == 0) = false := by simpa using hb
    go_wp2
    have HR0 : Hid (LI n g w.heap.size w (.int .i64 0) (.slice none 0 0) (.int .i64 0) w3) :=
      ⟨0, [], 0, _, _, rfl, rfl, by omega, rfl, rfl, ⟨by decide, by decide⟩, World.ownsRow_nil _ _ _ _, rfl, by simp [Sam], HO3.out, HC3.out, HC3.out.sz⟩
    go_loopw [7, 8, 9] (fun s7 s8 s9 wr => LI n g w.heap.size w s7 s8 s9 wr) (fun _ _ s9 _ => n.toNat - (intOf s9).toNat)
    case atStart => exact HR0.out
    case round =>
      clear HR0
      obtain ⟨k, L, x, wr, u8, hwr, hu8, hk, rfl, rfl, hx, hown, hL, hv, hog, hcw, hbase⟩ := hrel
      subst hwr hu8
      have HO := Lib.hid hown
      have HL := Lib.hid hL
      have HV := Lib.hid hv
      have HG := Lib.hid hog
      have HCW := Lib.hid hcw
      have HX := Lib.hid hx
      obtain ⟨x0', x1'⟩ := hx
      clear hown hL hv hog hcw
      rcases Int.lt_or_le (k : Int) n with hki | hneg
      · rcases (show (kd = 0 ∨ kd = 1) ∨ (kd = 2 ∨ kd = 3) ∨ kd = 4 ∨ kd = 5 by omega) with (rfl | rfl) | (rfl | rfl) | rfl | rfl
        · skip
          go_wp2_with fail
          go_at_call 16
          refine (range_any g (-sz) sz (by omega) (by omega) (by omega) _ HG.out).mono ?_
          rintro e w6 ⟨y, rfl, y0, y1, ho, hc⟩
          have HOK := Lib.hid ho
          have HCK : Hid (Ch g wr w6) := hc
          clear ho hc
          have hown1 := HO.out.kept (HCK.out) (by
            rcases hob : u8.ownBlock with _ | q
            · exact .inl rfl
            · exact .inr (fun e => by injection e with e; have := (HO.out.lt q hob).1; have := HGB.out; omega))
          have hsz := Ch.sz (HCK.out)
          have hgb := HGB.out
          have HOW := Lib.hid hown1
          clear hown1
          go_wp2_with (at_builtin; refine wpList_append_lies _ (by rfl) _ _ 22 (by rfl) w.heap.size 3 i0 _ 1 8 Try.underlying22 HI.out.1 HI.out.2.1 HI.out.2.2.1 HI.out.2.2.2 (by rfl) (by omega) u8 k (zs L) (by rfl) (HOW.out.alloc _) ⟨w6.heap.size, 0, none⟩ 1 1 [.int .i64 (y)] (by rfl) (by rfl) (World.news_of_block (cs := #[.int .i64 (y)]) (t := 3) (fr := (0, 0)) (heap_alloc_new w6 _)) (by simp [Value.oneCell']) (by omega) (by unfold maxLen; omega) (by omega) (by simp; omega) (w6.heap.size + 1) (by simp) ?_; intro h cap w5 hown4 hgrow hat hlt4)
          have hstep := li_step (n := n) (y := y) hgb hki HL.out HV.out (by omega) (by omega) HO.out HX.out (HOK.out) (HCK.out) HCW.out hbase hown4 hgrow
          have HST := Lib.hid hstep
          clear hstep hown4 hgrow hat
          go_wp2
          go_roundw
          case rel => exact HST.out
          case measure => simp [intOf]; omega
        · skip
          go_wp2_with fail
          go_at_call 16
          refine (range_any g (-sz) sz (by omega) (by omega) (by omega) _ HG.out).mono ?_
          rintro e w6 ⟨y, rfl, y0, y1, ho, hc⟩
          have HOK := Lib.hid ho
          have HCK : Hid (Ch g wr w6) := hc
          clear ho hc
          have hown1 := HO.out.kept (HCK.out) (by
            rcases hob : u8.ownBlock with _ | q
            · exact .inl rfl
            · exact .inr (fun e => by injection e with e; have := (HO.out.lt q hob).1; have := HGB.out; omega))
          have hsz := Ch.sz (HCK.out)
          have hgb := HGB.out
          have HOW := Lib.hid hown1
          clear hown1
          go_wp2_with (at_builtin; refine wpList_append_lies _ (by rfl) _ _ 22 (by rfl) w.heap.size 3 i0 _ 1 8 Try.underlying22 HI.out.1 HI.out.2.1 HI.out.2.2.1 HI.out.2.2.2 (by rfl) (by omega) u8 k (zs L) (by rfl) (HOW.out.alloc _) ⟨w6.heap.size, 0, none⟩ 1 1 [.int .i64 (y)] (by rfl) (by rfl) (World.news_of_block (cs := #[.int .i64 (y)]) (t := 3) (fr := (0, 0)) (heap_alloc_new w6 _)) (by simp [Value.oneCell']) (by omega) (by unfold maxLen; omega) (by omega) (by simp; omega) (w6.heap.size + 1) (by simp) ?_; intro h cap w5 hown4 hgrow hat hlt4)
          have hstep := li_step (n := n) (y := y) hgb hki HL.out HV.out (by omega) (by omega) HO.out HX.out (HOK.out) (HCK.out) HCW.out hbase hown4 hgrow
          have HST := Lib.hid hstep
          clear hstep hown4 hgrow hat
          go_wp2
          go_roundw
          case rel => exact HST.out
          case measure => simp [intOf]; omega
        · skip
          go_wp2_with fail
          go_at_call 16
          refine (range_any g (-sz) sz (by omega) (by omega) (by omega) _ HG.out).mono ?_
          rintro e w6 ⟨y, rfl, y0, y1, ho, hc⟩
          have HOK := Lib.hid ho
          have HCK : Hid (Ch g wr w6) := hc
          clear ho hc
          go_wp2_with fail
          go_at_call 57
          refine (clip_any (x + y) (by omega) (by omega) _).mono ?_
          rintro e w7 ⟨⟨z, rfl, z0, z1⟩, rfl⟩
          have HX := Lib.hid (And.intro z0 z1)
          have hown1 := HO.out.kept (HCK.out) (by
            rcases hob : u8.ownBlock with _ | q
            · exact .inl rfl
            · exact .inr (fun e => by injection e with e; have := (HO.out.lt q hob).1; have := HGB.out; omega))
          have hsz := Ch.sz (HCK.out)
          have hgb := HGB.out
          have HOW := Lib.hid hown1
          clear hown1
          go_wp2_with (at_builtin; refine wpList_append_lies _ (by rfl) _ _ 22 (by rfl) w.heap.size 3 i0 _ 1 8 Try.underlying22 HI.out.1 HI.out.2.1 HI.out.2.2.1 HI.out.2.2.2 (by rfl) (by omega) u8 k (zs L) (by rfl) (HOW.out.alloc _) ⟨w6.heap.size, 0, none⟩ 1 1 [.int .i64 (z)] (by rfl) (by rfl) (World.news_of_block (cs := #[.int .i64 (z)]) (t := 3) (fr := (0, 0)) (heap_alloc_new w6 _)) (by simp [Value.oneCell']) (by omega) (by unfold maxLen; omega) (by omega) (by simp; omega) (w6.heap.size + 1) (by simp) ?_; intro h cap w5 hown4 hgrow hat hlt4)
          have hstep := li_step (n := n) (y := z) hgb hki HL.out HV.out (by omega) (by omega) HO.out HX.out (HOK.out) (HCK.out) HCW.out hbase hown4 hgrow
          have HST := Lib.hid hstep
          clear hstep hown4 hgrow hat
          go_wp2
          go_roundw
          case rel => exact HST.out
          case measure => simp [intOf]; omega
        · skip
          go_wp2_with fail
          go_at_call 16
          refine (range_any g (-sz) sz (by omega) (by omega) (by omega) _ HG.out).mono ?_
          rintro e w6 ⟨y, rfl, y0, y1, ho, hc⟩
          have HOK := Lib.hid ho
          have HCK : Hid (Ch g wr w6) := hc
          clear ho hc
          go_wp2_with fail
          go_at_call 57
          refine (clip_any (x + y) (by omega) (by omega) _).mono ?_
          rintro e w7 ⟨⟨z, rfl, z0, z1⟩, rfl⟩
          have HX := Lib.hid (And.intro z0 z1)
          have hown1 := HO.out.kept (HCK.out) (by
            rcases hob : u8.ownBlock with _ | q
            · exact .inl rfl
            · exact .inr (fun e => by injection e with e; have := (HO.out.lt q hob).1; have := HGB.out; omega))
          have hsz := Ch.sz (HCK.out)
          have hgb := HGB.out
          have HOW := Lib.hid hown1
          clear hown1
          go_wp2_with (at_builtin; refine wpList_append_lies _ (by rfl) _ _ 22 (by rfl) w.heap.size 3 i0 _ 1 8 Try.underlying22 HI.out.1 HI.out.2.1 HI.out.2.2.1 HI.out.2.2.2 (by rfl) (by omega) u8 k (zs L) (by rfl) (HOW.out.alloc _) ⟨w6.heap.size, 0, none⟩ 1 1 [.int .i64 (z)] (by rfl) (by rfl) (World.news_of_block (cs := #[.int .i64 (z)]) (t := 3) (fr := (0, 0)) (heap_alloc_new w6 _)) (by simp [Value.oneCell']) (by omega) (by unfold maxLen; omega) (by omega) (by simp; omega) (w6.heap.size + 1) (by simp) ?_; intro h cap w5 hown4 hgrow hat hlt4)
          have hstep := li_step (n := n) (y := z) hgb hki HL.out HV.out (by omega) (by omega) HO.out HX.out (HOK.out) (HCK.out) HCW.out hbase hown4 hgrow
          have HST := Lib.hid hstep
          clear hstep hown4 hgrow hat
          go_wp2
          go_roundw
          case rel => exact HST.out
          case measure => simp [intOf]; omega
        · skip
          go_wp2_with fail
          go_at_call 20
          refine (n_any g 4 (by decide) (by decide) _ HG.out).mono ?_
          rintro e w6 ⟨b4, rfl, b40, b41, ho, hc⟩
          have HOK := Lib.hid ho
          have HCK := Lib.hid hc
          clear ho hc
          rcases (show b4 = 0 ∨ b4 ≠ 0 by omega) with rfl | hb4
          · skip
            go_wp2_with fail
            go_at_call 16
            refine (range_any g (-sz) sz (by omega) (by omega) (by omega) _ HOK.out).mono ?_
            rintro e w7 ⟨y, rfl, y0, y1, ho, hc⟩
            have HOK := Lib.hid ho
            have HCK : Hid (Ch g wr w7) := HCK.out.tr hc
            clear ho hc
            have HX : Hid (-1000 ≤ y ∧ y ≤ 1000) := ⟨by omega, by omega⟩
            have hown1 := HO.out.kept (HCK.out) (by
              rcases hob : u8.ownBlock with _ | q
              · exact .inl rfl
              · exact .inr (fun e => by injection e with e; have := (HO.out.lt q hob).1; have := HGB.out; omega))
            have hsz := Ch.sz (HCK.out)
            have hgb := HGB.out
            have HOW := Lib.hid hown1
            clear hown1
            go_wp2_with (at_builtin; refine wpList_append_lies _ (by rfl) _ _ 22 (by rfl) w.heap.size 3 i0 _ 1 8 Try.underlying22 HI.out.1 HI.out.2.1 HI.out.2.2.1 HI.out.2.2.2 (by rfl) (by omega) u8 k (zs L) (by rfl) (HOW.out.alloc _) ⟨w7.heap.size, 0, none⟩ 1 1 [.int .i64 (y)] (by rfl) (by rfl) (World.news_of_block (cs := #[.int .i64 (y)]) (t := 3) (fr := (0, 0)) (heap_alloc_new w7 _)) (by simp [Value.oneCell']) (by omega) (by unfold maxLen; omega) (by omega) (by simp; omega) (w7.heap.size + 1) (by simp) ?_; intro h cap w5 hown4 hgrow hat hlt4)
            have hstep := li_step (n := n) (y := y) hgb hki HL.out HV.out (by omega) (by omega) HO.out HX.out (HOK.out) (HCK.out) HCW.out hbase hown4 hgrow
            have HST := Lib.hid hstep
            clear hstep hown4 hgrow hat
            go_wp2
            go_roundw
            case rel => exact HST.out
            case measure => simp [intOf]; omega
          · skip
            have hown1 := HO.out.kept (HCK.out) (by
              rcases hob : u8.ownBlock with _ | q
              · exact .inl rfl
              · exact .inr (fun e => by injection e with e; have := (HO.out.lt q hob).1; have := HGB.out; omega))
            have hsz := Ch.sz (HCK.out)
            have hgb := HGB.out
            have HOW := Lib.hid hown1
            clear hown1
            go_wp2_with (at_builtin; refine wpList_append_lies _ (by rfl) _ _ 22 (by rfl) w.heap.size 3 i0 _ 1 8 Try.underlying22 HI.out.1 HI.out.2.1 HI.out.2.2.1 HI.out.2.2.2 (by rfl) (by omega) u8 k (zs L) (by rfl) (HOW.out.alloc _) ⟨w6.heap.size, 0, none⟩ 1 1 [.int .i64 (x)] (by rfl) (by rfl) (World.news_of_block (cs := #[.int .i64 (x)]) (t := 3) (fr := (0, 0)) (heap_alloc_new w6 _)) (by simp [Value.oneCell']) (by omega) (by unfold maxLen; omega) (by omega) (by simp; omega) (w6.heap.size + 1) (by simp) ?_; intro h cap w5 hown4 hgrow hat hlt4)
            have hstep := li_step (n := n) (y := x) hgb hki HL.out HV.out (by omega) (by omega) HO.out HX.out (HOK.out) (HCK.out) HCW.out hbase hown4 hgrow
            have HST := Lib.hid hstep
            clear hstep hown4 hgrow hat
            go_wp2
            go_roundw
            case rel => exact HST.out
            case measure => simp [intOf]; omega
        · skip
          go_wp2_with fail
          go_at_call 21
          refine (pick_any g wr.heap.size [-1000, 1000, 1000, 0] 4 (by rfl) (by decide) (by decide) (by have := HGB.out; have := HCW.out.sz; omega) _ (HG.out.bel (Bel.rf.al _)) (lst_new _ _ _ _ (by rfl) _ rfl)).mono ?_
          rintro e w6 ⟨y, rfl, hy, ho, hc⟩
          have hy1 : -1000 ≤ y ∧ y ≤ 1000 := by simp at hy; omega
          obtain ⟨y0, y1⟩ := hy1
          have HOK := Lib.hid ho
          have HCK : Hid (Ch g wr w6) := (Ch.rf.al _).tr hc
          clear ho hc hy
          have hown1 := HO.out.kept (HCK.out) (by
            rcases hob : u8.ownBlock with _ | q
            · exact .inl rfl
            · exact .inr (fun e => by injection e with e; have := (HO.out.lt q hob).1; have := HGB.out; omega))
          have hsz := Ch.sz (HCK.out)
          have hgb := HGB.out
          have HOW := Lib.hid hown1
          clear hown1
          go_wp2_with (at_builtin; refine wpList_append_lies _ (by rfl) _ _ 22 (by rfl) w.heap.size 3 i0 _ 1 8 Try.underlying22 HI.out.1 HI.out.2.1 HI.out.2.2.1 HI.out.2.2.2 (by rfl) (by omega) u8 k (zs L) (by rfl) (HOW.out.alloc _) ⟨w6.heap.size, 0, none⟩ 1 1 [.int .i64 (y)] (by rfl) (by rfl) (World.news_of_block (cs := #[.int .i64 (y)]) (t := 3) (fr := (0, 0)) (heap_alloc_new w6 _)) (by simp [Value.oneCell']) (by omega) (by unfold maxLen; omega) (by omega) (by simp; omega) (w6.heap.size + 1) (by simp) ?_; intro h cap w5 hown4 hgrow hat hlt4)
          have hstep := li_step (n := n) (y := y) hgb hki HL.out HV.out (by omega) (by omega) HO.out HX.out (HOK.out) (HCK.out) HCW.out hbase hown4 hgrow
          have HST := Lib.hid hstep
          clear hstep hown4 hgrow hat
          go_wp2
          go_roundw
          case rel => exact HST.out
          case measure => simp [intOf]; omega
      · obtain rfl : n = (k : Int) := by omega
        have hnk : n0 = k := by have := HNN.out; omega
        subst hnk
        go_wp2
        go_ret
        exact ⟨_, L, rfl, HO.out, HL.out, HV.out, HG.out, HCW.out⟩
end Go.Proofs.Ytkonknkoggfeaaa.Sr
