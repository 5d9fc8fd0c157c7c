/- Merged: Euc TopR TopL. -/
import Derived.Test.YtnjojdmmalmhaaaGreatDoorGl1
import Derived.Test.YtnjojdmmalmhaaaGreatDoorGl2
import Derived.Test.YtnjojdmmalmhaaaGreatDoorGl3
import Derived.Test.YtnjojdmmalmhaaaGreatDoorGl4
import Derived.Test.YtnjojdmmalmhaaaGreatDoorGl5
import Derived.Test.YtnjojdmmalmhaaaGreatDoorGl6
import Derived.Stop.Joined
import Derived.Stop.LaidErr
import Derived.LaidMore
import Derived.MakeChecks
namespace Go.Proofs.YtnjojdmmalmhaaaGreatDoor.Eu
open Go.ChangeShapes Go.WideShapes Go.RowKit Wo Sr Wi Ra
set_option linter.unusedVariables false
theorem window_ok (A : Option Addr) (c n : Nat) (L : List Int) (n1 : 2 ≤ n) (n2 : n ≤ 32) (hs : Sam L) (w : World) (h1 : Zi w A n L) :
    Calls Tryz.prog 60 #[.slice A n c] w fun e w' => e = .returned (.int .i64 0) ∧ Bel w w' := by
  have H1 := Lib.hid h1
  have HS := Lib.hid hs
  have i1 : 2 ≤ (n : Int) := by omega
  have i2 : (n : Int) ≤ 32 := by omega
  clear h1 hs
  go_enter Tryz.func60, Tryz.ntmps60
  go_wp2_with fail
  go_at_call 82
  refine (length_ok (n : Int) i1 i2 _).mono ?_
  rintro e v ⟨rfl, rfl⟩
  go_wp2_with (go_at_call 45; refine (samples_ok A c n L (by omega) HS.out _ H1.out).mono ?_; rintro e w2 ⟨rfl, hb2⟩)
  go_ret
  exact ⟨rfl, hb2⟩
set_option maxHeartbeats 8000000 in
set_option maxRecDepth 100000 in
theorem squares_ok (A A' : Option Addr) (c c' n : Nat) (L M : List Int) (n2 : n ≤ 32) (hs : Sam L) (ht : Sam M) (w : World) (h1 : Zi w A n L) (h2 : Zi w A' n M) :
    Calls Tryz.prog 61 #[.slice A n c, .slice A' n c', .int .i64 9223372036854775807] w fun e w' => e = .returned (.int .i64 (su sq (df L M))) ∧ Bel w w' := by
  have H1 := Lib.hid h1
  have H2 := Lib.hid h2
  have HS := Lib.hid hs
  have HT := Lib.hid ht
  have hlen : L.length = M.length := by rw [h1.1, h2.1]
  have hl := h1.1
  have HD : Hid (Bd 2000 (df L M)) := df_bd (A := 1000) (B := 1000) hs ht
  have i2 : (n : Int) ≤ 32 := by omega
  clear h1 h2 hs ht
  go_enter Tryz.func61, Tryz.ntmps61
  go_wp2
  go_step3
  go_wp2
  go_step3
  go_wp2
  go_loopw [7, 12] (fun s7 s12 wr => ∃ (t : Nat) (V : World) (s : Int), V = wr ∧ t ≤ n ∧ s12 = .int .i64 (t : Int) ∧ s7 = .int .i64 s ∧ s = su sq ((df L M).take t) ∧ Bel w wr) (fun _ s12 _ => n - (intOf s12).toNat)
  case atStart => exact ⟨0, _, 0, rfl, by omega, rfl, rfl, by simp [su], Bel.rf⟩
  case round =>
    obtain ⟨t, wr, s, hwr, ht, rfl, rfl, hs, hb⟩ := hrel
    subst hwr
    have HB := Lib.hid hb
    have HSV := Lib.hid hs
    rcases Nat.lt_or_ge t n with hlt | hge
    · obtain ⟨ad, rfl, _, hac⟩ := (H1.out.bel hb).2 (by omega)
      obtain ⟨ad', rfl, _, hac'⟩ := (H2.out.bel hb).2 (by omega)
      have c1 := hac t hlt
      have c2 := hac' t hlt
      have hd := df_at hlen t (by omega)
      have hn := su_next sq (df L M) t (by rw [df_len hlen]; omega)
      have hbd := susq_bd (HD.out.take t)
      have hbd2 := susq_bd (HD.out.take (t + 1))
      have tl : (((df L M).take t).length : Int) ≤ 32 ∧ (((df L M).take (t + 1)).length : Int) ≤ 32 := by
        have := List.length_take_le t (df L M)
        have := List.length_take_le (t + 1) (df L M)
        omega
      have px := HS.out.at t
      have py := HT.out.at t
      obtain ⟨x, hx⟩ : ∃ x, L.getD t 0 = x := ⟨_, rfl⟩
      obtain ⟨y, hy⟩ : ∃ y, M.getD t 0 = y := ⟨_, rfl⟩
      rw [hx] at c1 px hd
      rw [hy] at c2 py hd
      rw [hd] at hn
      rw [hn, ← hs] at hbd2
      rw [← hs] at hbd hn
      unfold sq at hn hbd2
      obtain ⟨x0, x1⟩ := px
      obtain ⟨y0, y1⟩ := py
      obtain ⟨d, hdd⟩ : ∃ d, x - y = d := ⟨_, rfl⟩
      rw [hdd] at hn hbd2
      have HN : Hid (s + d * d = su sq ((df L M).take (t + 1))) := hn.symm
      have s0 : 0 ≤ s ∧ s ≤ 128000000 ∧ 0 ≤ s + d * d ∧ s + d * d ≤ 128000000 := by
        obtain ⟨a, b⟩ := hbd
        obtain ⟨a2, b2⟩ := hbd2
        omega
      have dq := sq_nn d
      obtain ⟨s00, s01, s02, s03⟩ := s0
      have m1 : wrap64 (d * d) = d * d := IntWalk.wrap64_in _ (by omega)
      have m2 : IntKind.i64.wrap (d * d) = d * d := IntWalk.i64_in _ (by omega)
      have m3 : IntKind.i64.wrap (s + d * d) = s + d * d := IntWalk.i64_in _ (by omega)
      have m5 : IntKind.i64.wrap d = d := IntWalk.i64_in _ (by omega)
      have m6 : IntKind.i64.wrap (x - y) = d := by rw [hdd]; exact m5
      have bk : decide (9223372036854775807 < s + d * d) = false := decide_eq_false (by omega)
      have ti : (t : Int) < (n : Int) := by omega
      have HXY := Lib.hid (And.intro hx hy)
      clear hb hs hac hac' hd hbd hbd2 tl hx hy hn
      go_wp2
      go_quiet (fail)
      go_wp2
      go_roundw
      case rel => exact ⟨t + 1, _, _, rfl, by omega, by go_num, rfl, HN.out, by first | exact HB.out.drwN _ | exact HB.out.drw | exact HB.out⟩
      case measure => simp [intOf]; omega
    · obtain rfl : t = n := by omega
      have e : (df L M).take t = df L M := List.take_of_length_le (by rw [df_len hlen]; omega)
      rw [e] at hs
      clear hb
      go_wp2
      rw [Exit.noGoto_ret]
      go_ret
      exact ⟨ret_int hs, HB.out⟩
/-- a part of a slice -/
theorem zi_sub {w : World} {h N : Nat} {Z : List Int} (hz : Zi w (some ⟨h, 0, none⟩) N Z) (i n : Nat) (hi : i + n ≤ N) : Zi w (some ⟨h, i, none⟩) n ((Z.drop i).take n) := by
  have hl := hz.1
  refine ⟨by simp; omega, fun hn => ?_⟩
  obtain ⟨ad, e, hx, _⟩ := hz.2 (by omega)
  cases e
  refine ⟨_, rfl, hx, fun j hj => ?_⟩
  have := hz.at (i + j) (by omega)
  rw [show (⟨h, i, none⟩ : Addr).add j = ⟨h, i + j, none⟩ by unfold Addr.add; split <;> simp_all, this]
  simp [List.getD_eq_getElem?_getD, hj]
/-- the distances to the first k windows -/
def prof (Q Z : List Int) (n k : Nat) : List Int := (List.range k).map fun i => su sq (df Q ((Z.drop i).take n))
theorem prof_len (Q Z : List Int) (n k : Nat) : (prof Q Z n k).length = k := by simp [prof]
theorem prof_at (Q Z : List Int) (n k i : Nat) (h : i < k) : (prof Q Z n k).getD i 0 = su sq (df Q ((Z.drop i).take n)) := by
  rw [List.getD_eq_getElem?_getD, prof, List.getElem?_map, List.getElem?_range h]; rfl
theorem prof_next (Q Z : List Int) (n k : Nat) : prof Q Z n k ++ [su sq (df Q ((Z.drop k).take n))] = prof Q Z n (k + 1) := by
  unfold prof
  rw [List.range_succ (n := k), List.map_append]
  rfl
def PI (Q Z : List Int) (n N base : Nat) (w : World) (s7 s28 : Value) (wr : World) : Prop := ∃ (k : Nat) (V : World) (u : Value), V = wr ∧ u = s7 ∧ k ≤ N ∧ s28 = .int .i64 (k : Int) ∧
  wr.ownsRow base 3 1 s7 k (zs (prof Q Z n k)) ∧ Bel w wr ∧ base ≤ wr.heap.size
theorem pi_step {Q Z : List Int} {n N k h cap : Nat} {w wr w1 w2 : World} {s7 : Value} {y : Int} (hk : k < N) (hy : su sq (df Q ((Z.drop k).take n)) = y)
    (hown : wr.ownsRow w.heap.size 3 1 s7 k (zs (prof Q Z n k))) (hb : Bel w wr) (hbase : w.heap.size ≤ wr.heap.size) (h1 : Bel wr w1)
    (hown2 : w2.ownsRow w.heap.size 3 1 (.slice (some ⟨h, 0, none⟩) (k + 1) cap) (k + 1) (zs (prof Q Z n k) ++ [.int .i64 y])) (hgr : (w1.alloc (.cells #[.int .i64 y] 3)).grownBy w2 s7.ownBlock) :
    PI Q Z n N w.heap.size w (.slice (some ⟨h, 0, none⟩) (k + 1) cap) (.int .i64 ((k : Int) + 1)) w2 := by
  have hrow : ∀ b, s7.ownBlock = some b → w.heap.size ≤ b := fun b e => (hown.lt b e).1
  have h2 : Bel w (w1.alloc (.cells #[.int .i64 y] 3)) := (hb.tr h1).al _
  refine ⟨k + 1, _, _, rfl, rfl, by omega, by congr 1, ?_, ?_, ?_⟩
  · rw [← prof_next, zs_app, hy]; exact hown2
  · exact Below.grown h2 hgr h2.size (fun b e => by have := hrow b e; omega)
  · have := hgr.size
    have := h1.size
    simp at *
    omega
set_option maxHeartbeats 8000000 in
set_option maxRecDepth 100000 in
theorem profile_ok (A : Option Addr) (c n h c' T N : Nat) (Q Z : List Int) (n1 : 2 ≤ n) (n2 : n ≤ 32) (hT : T ≤ 2000) (hnT : n ≤ T) (hN : T + 1 - n = N) (hcap : T ≤ c') (hs : Sam Q) (ht : Sam Z) (w : World) (h1 : Zi w A n Q) (h2 : Zi w (some ⟨h, 0, none⟩) T Z) :
    Calls Tryz.prog 32 #[.slice A n c, .slice (some ⟨h, 0, none⟩) T c'] w fun e w' => ∃ v, e = .returned (.tuple #[v, .int .i64 0]) ∧ w'.ownsRow w.heap.size 3 1 v N (zs (prof Q Z n N)) ∧ Bel w w' := by
  obtain ⟨i0, hi0, hz0, hz1, hz2⟩ := info_parts info_int
  have HI := Lib.hid (And.intro hi0 (And.intro hz0 (And.intro hz1 hz2)))
  clear hi0 hz0 hz1 hz2
  have H1 := Lib.hid h1
  have H2 := Lib.hid h2
  have HS := Lib.hid hs
  have HT := Lib.hid ht
  have i1 : 2 ≤ (n : Int) := by omega
  have i2 : (n : Int) ≤ 32 := by omega
  have i3 : (T : Int) ≤ 2000 := by omega
  have i4 : (T : Int) ≤ (c' : Int) := by omega
  have hmx : (T : Int) - (n : Int) + 1 = (N : Int) := by omega
  have hN0 : 0 < (N : Int) := by omega
  have hNi : (N : Int) ≤ 2001 := by omega
  clear h1 h2 hs ht
  go_enter Tryz.func32, Tryz.ntmps32
  go_wp2_with fail
  go_at_call 60
  refine (window_ok A c n Q n1 n2 HS.out _ H1.out).mono ?_
  rintro e w1 ⟨rfl, hb1⟩
  have HB1 := Lib.hid hb1
  clear hb1
  go_wp2_with (go_at_call 45; refine (samples_ok _ c' T Z (by omega) HT.out _ (H2.out.bel HB1.out)).mono ?_; rintro e w2 ⟨rfl, hb2⟩)
  have HB2 := Lib.hid (HB1.out.tr hb2)
  clear hb2
  have HR0 : Hid (PI Q Z n N w2.heap.size w2 (.slice none 0 0) (.int .i64 0) w2) := ⟨0, _, _, rfl, rfl, by omega, rfl, World.ownsRow_nil _ _ _ _, Bel.rf, Nat.le_refl _⟩
  go_loopw [7, 28] (fun s7 s28 wr => PI Q Z n N w2.heap.size w2 s7 s28 wr) (fun _ s28 _ => N - (intOf s28).toNat)
  case atStart => exact HR0.out
  case round =>
    clear HR0
    obtain ⟨k, wr, u7, hwr, hu7, hk, rfl, hown, hb, hbase⟩ := hrel
    subst hwr hu7
    have HO := Lib.hid hown
    have HB := Lib.hid hb
    rcases Nat.lt_or_ge k N with hlt | hge
    · have hw : Bel w wr := HB2.out.tr hb
      have HSQ := Lib.hid (squares_ok A (some ⟨h, k, none⟩) c n n Q ((Z.drop k).take n) n2 HS.out ((HT.out.drop k).take n) wr (H1.out.bel hw) (zi_sub (H2.out.bel hw) k n (by omega)))
      obtain ⟨y, hy⟩ : ∃ y, su sq (df Q ((Z.drop k).take n)) = y := ⟨_, rfl⟩
      rw [hy] at HSQ
      have HY := Lib.hid hy
      have ki : (k : Int) < (N : Int) := by omega
      have kb : (k : Int) + (n : Int) ≤ (T : Int) := by omega
      have kc : (k : Int) + (n : Int) ≤ (c' : Int) := by omega
      clear hown hb hw hy
      go_wp2_with fail
      go_at_call 61
      refine HSQ.out.mono ?_
      rintro e w3 ⟨rfl, hb3⟩
      have hown1 := own_bel HO.out hb3
      have hsz := hb3.size
      have HOW := Lib.hid hown1
      have HB3 := Lib.hid hb3
      clear hown1 hb3
      go_wp2_with (at_builtin; refine wpList_append_lies _ (by rfl) _ _ 22 (by rfl) w2.heap.size 3 i0 _ 1 8 Tryz.underlying22 HI.out.1 HI.out.2.1 HI.out.2.2.1 HI.out.2.2.2 (by rfl) (by omega) u7 k (zs (prof Q Z n k)) (by rfl) (HOW.out.alloc _) ⟨w3.heap.size, 0, none⟩ 1 1 [.int .i64 y] (by rfl) (by rfl) (World.news_of_block (cs := #[.int .i64 y]) (t := 3) (fr := (0, 0)) (heap_alloc_new w3 _)) (by simp [Value.oneCell']) (by omega) (by unfold maxLen; omega) (by omega) (by simp; omega) (w3.heap.size + 1) (by simp) ?_; intro h' cap' w5 hown4 hgrow hat hlt4)
      have hstep := pi_step hlt HY.out HO.out HB.out hbase HB3.out hown4 hgrow
      have HST := Lib.hid hstep
      clear hstep hown4 hgrow hat
      go_wp2
      go_roundw
      case rel => exact HST.out
      case measure => simp [intOf]; omega
    · obtain rfl : k = N := by omega
      clear hown hb
      go_wp2
      go_ret2
      exact ⟨_, rfl, HO.out.mono HB2.out.size, HB2.out.tr HB.out⟩
set_option maxHeartbeats 4000000 in
theorem ints_diff (A A' : Option Addr) (c c' n : Nat) (L M : List Int) (hn : n ≤ 1000000) (hd : L ≠ M) (w : World) (h1 : Zi w A n L) (h2 : Zi w A' n M) :
    Calls Tryz.prog 11 #[.slice A n c, .slice A' n c'] w fun e w' => e = .returned (.bool false) ∧ Bel w w' := by
  have H1 := Lib.hid h1
  have H2 := Lib.hid h2
  have ni : (n : Int) ≤ 1000000 := by omega
  have HDF : Hid (¬ ∀ j, j < n → L.getD j 0 = M.getD j 0) := by
    show ¬ _
    intro hall
    apply hd
    apply List.ext_getElem?
    intro i
    rcases Nat.lt_or_ge i n with hi | hi
    · have := hall i hi
      rw [List.getD_eq_getElem?_getD, List.getD_eq_getElem?_getD, List.getElem?_eq_getElem (by rw [h1.1]; exact hi), List.getElem?_eq_getElem (by rw [h2.1]; exact hi)] at this
      rw [List.getElem?_eq_getElem (by rw [h1.1]; exact hi), List.getElem?_eq_getElem (by rw [h2.1]; exact hi)]
      exact congrArg some this
    · rw [List.getElem?_eq_none (by rw [h1.1]; exact hi), List.getElem?_eq_none (by rw [h2.1]; exact hi)]
  clear h1 h2 hd
  go_enter Tryz.func11, Tryz.ntmps11
  go_wp2
  go_loopw [13] (fun s13 wr => ∃ (k : Nat) (V : World), V = wr ∧ k ≤ n ∧ s13 = .int .i64 (k : Int) ∧ (∀ j, j < k → L.getD j 0 = M.getD j 0) ∧ Bel w wr) (fun s13 _ => n - (intOf s13).toNat)
  case atStart => exact ⟨0, _, rfl, by omega, rfl, fun j hj => by omega, Bel.rf⟩
  case round =>
    obtain ⟨k, wr, hwr, hk, rfl, hall, hb⟩ := hrel
    subst hwr
    have HB := Lib.hid hb
    have HAL := Lib.hid hall
    rcases Nat.lt_or_ge k n with hlt | hge
    · obtain ⟨ad, rfl, hab, hac⟩ := (H1.out.bel hb).2 (by omega)
      obtain ⟨ad', rfl, hab', hac'⟩ := (H2.out.bel hb).2 (by omega)
      have c1 := hac k hlt
      have c2 := hac' k hlt
      obtain ⟨x, hx⟩ : ∃ x, L.getD k 0 = x := ⟨_, rfl⟩
      obtain ⟨y, hy⟩ : ∃ x, M.getD k 0 = x := ⟨_, rfl⟩
      rw [hx] at c1
      rw [hy] at c2
      have ki : (k : Int) < (n : Int) := by omega
      have HXY := Lib.hid (And.intro hx hy)
      clear hb hac hac' hab hab' hx hy hall
      rcases Classical.em (x = y) with rfl | hxy
      · have kn := ne_self x
        go_wp2
        go_quiet (fail)
        go_wp2
        go_roundw
        case rel => exact ⟨k + 1, _, rfl, by omega, by go_num, fun j hj => by
          rcases Nat.lt_or_ge j k with h | h
          · exact HAL.out j h
          · obtain rfl : j = k := by omega
            rw [HXY.out.1, HXY.out.2], HB.out.drwN _⟩
        case measure => simp [intOf]; omega
      · have kn : (x != y) = true := by simpa using hxy
        go_wp2
        go_quiet (fail)
        go_wp2
        go_ret
        exact ⟨rfl, HB.out.drwN _⟩
    · obtain rfl : k = n := by omega
      exact absurd hall HDF.out
end Go.Proofs.YtnjojdmmalmhaaaGreatDoor.Eu
namespace Go.Proofs.YtnjojdmmalmhaaaGreatDoor.Tp
open Go.ChangeShapes Go.WideShapes Go.RowKit Wo Sr Wi
open Rm (Rp tm vl)
open Rg (rs Zr own_zr gv Gv vals)
open Rt (Ut Zu raw run lns lns_line lns_nil parse_go GoodU)
open Un (Pows Pows.bel low_lit)
open Se (Sb Sv Vs store_ok load_ok own_zsg SomeStore)
set_option linter.unusedVariables false
def txr : List UInt8 := [48, 32, 49, 32, 114, 97, 119, 10, 49, 48, 32, 51, 32, 114, 97, 119, 10, 50, 48, 32, 50, 32, 114, 97, 119, 10]
theorem txr_run : run [raw] (lns txr) 1 [] = ([(0, 1), (10, 3), (20, 2)], 0, 0) := by
  have e : lns txr = [[48, 32, 49, 32, 114, 97, 119], [49, 48, 32, 51, 32, 114, 97, 119], [50, 48, 32, 50, 32, 114, 97, 119]] := by
    rw [show txr = [48, 32, 49, 32, 114, 97, 119] ++ 10 :: ([49, 48, 32, 51, 32, 114, 97, 119] ++ 10 :: ([50, 48, 32, 50, 32, 114, 97, 119] ++ 10 :: [])) from rfl, lns_line _ _ (by decide), lns_line _ _ (by decide), lns_line _ _ (by decide), lns_nil]
  rw [e]
  decide
theorem raw_good : ∀ u ∈ [raw], GoodU u := by
  intro u hu
  rw [List.mem_singleton] at hu
  subst hu
  exact ⟨low_lit (by decide) (by decide) (by decide), by decide, by decide, by decide, by decide, by decide, by decide⟩
theorem txr_asc : Rm.Asc [(0, 1), (10, 3), (20, 2)] := by
  refine ⟨fun i hi => ?_, fun i hi => ?_⟩
  · rcases (by simp at hi; omega : i = 0 ∨ i = 1 ∨ i = 2) with rfl | rfl | rfl <;> decide
  · rcases (by simp at hi; omega : i = 0 ∨ i = 1) with rfl | rfl <;> decide
theorem txr_vals : vals [(0, 1), (10, 3), (20, 2)] 0 10 1 0 3 = [1, 3, 2] := by decide
theorem txr_gv : Gv 0 10 ((3 : Nat) : Int) 1 0 := by unfold Gv; decide
theorem txr_sv : Sv [1, 3, 2] := by unfold Sv; decide
theorem txr_sb : Sb 0 10 3 := by unfold Sb; decide
theorem txr_prof : Eu.prof [3, 2] [1, 3, 2] 2 2 = [5, 0] := by decide
set_option maxHeartbeats 8000000 in
set_option maxRecDepth 100000 in
theorem running_any (w : World) (hP : Pows w) : Calls Tryz.prog 13 #[] w fun e w' => e = .returned (.bool true) ∧ Bel w w' := by
  have HP := Lib.hid hP
  have HU : Hid (Zu (w.alloc (.cells #[.string ⟨#[114, 97, 119]⟩, .int .i64 1, .int .i64 0, .int .i64 1] 82)) w.heap.size [raw]) := by
    refine ⟨by simp, fun j u hu => ?_⟩
    have hb := Bk.nw w 82 #[.string ⟨#[114, 97, 119]⟩, .int .i64 1, .int .i64 0, .int .i64 1]
    rcases j with _ | j
    · cases hu
      exact ⟨by rw [hb.cell]; rfl, by rw [hb.cell]; rfl, by rw [hb.cell]; rfl, by rw [hb.cell]; rfl⟩
    · cases hu
  clear hP
  go_enter Tryz.func13, Tryz.ntmps13
  go_wp2_with fail
  go_at_call 31
  refine (parse_go ⟨#[48, 32, 49, 32, 114, 97, 119, 10, 49, 48, 32, 51, 32, 114, 97, 119, 10, 50, 48, 32, 50, 32, 114, 97, 119, 10]⟩ (by decide) [raw] raw_good (by decide) 1 1 w.heap.size rfl (by decide) _ HU.out (HP.out.bel (Bel.rf.al _))).mono ?_
  rintro e w1 ⟨l, k, er, v, hr, rfl, hown, hb1⟩
  have hr2 : run [raw] (lns txr) 1 [] = (l, k, er) := hr
  rw [txr_run] at hr2
  cases hr2
  obtain ⟨A, ca, rfl, hz⟩ := own_zr hown rfl
  have HB1 : Hid (Bel w w1) := (Bel.rf.al _).tr hb1
  have HZ := Lib.hid hz
  clear hr hown hb1 hz HU
  go_wp2_with fail
  go_at_call 16
  refine (Rg.apply_ok A ca 3 [(0, 1), (10, 3), (20, 2)] (by decide) txr_asc 0 10 1 0 3 txr_gv w1 HZ.out).mono ?_
  rintro e w2 ⟨gq, rfl, hgq, hbk, hb2⟩
  rw [txr_vals] at hbk
  have HB2 : Hid (Bel w w2) := HB1.out.tr hb2
  have HV : Hid (Zi w2 (some ⟨gq, 0, none⟩) 3 [1, 3, 2]) := zi_bk hbk 3 rfl
  clear hbk hb2 hgq
  go_wp2_with fail
  go_at_call 7
  refine (store_ok 0 10 (some ⟨gq, 0, none⟩) 3 3 [1, 3, 2] txr_sb txr_sv _ ⟨HV.out.bel (Bel.rf.al _), Nat.le_refl _, .inr ⟨gq, rfl⟩⟩).mono ?_
  rintro e w3 ⟨u, N, us, rfl, hN, hus, hown3, hsr, hb3⟩
  obtain ⟨A3, c3, rfl, hz3⟩ := own_zsg hown3 hus
  have HB3 : Hid (Bel w w3) := (HB2.out.al _).tr hb3
  have HLD := Lib.hid (load_ok 0 10 3 [1, 3, 2] txr_sb txr_sv rfl (by decide) A3 c3 N us hN w3 hz3 hsr)
  clear hN hus hown3 hsr hb3 hz3
  go_wp2_with fail
  go_at_call 8
  refine HLD.out.mono ?_
  rintro e w4 ⟨a, rfl, hz4, hb4⟩
  have HB4 : Hid (Bel w w4) := HB3.out.tr hb4
  have HZ4 := Lib.hid hz4
  clear hz4 hb4 HLD
  go_wp2_with fail
  go_at_call 32
  have hq : Zi ((w4.alloc (.cells #[.int .i64 0, .int .i64 10, .slice (some ⟨a, 0, none⟩) 3 3] 24)).alloc (.cells #[.int .i64 3, .int .i64 2] 3)) (some ⟨w4.heap.size + 1, 0, none⟩) 2 [3, 2] := zi_bk (Bk.nq _ 3 (zs [3, 2]).toArray (by simp)) 2 rfl
  refine (Eu.profile_ok (some ⟨w4.heap.size + 1, 0, none⟩) 2 2 a 3 3 2 [3, 2] [1, 3, 2] (by decide) (by decide) (by decide) (by decide) (by decide) (by decide) (by unfold Sam; decide) (by unfold Sam; decide) _ hq ((HZ4.out.bel (Bel.rf.al _)).bel (Bel.rf.al _))).mono ?_
  rintro e w5 ⟨v5, rfl, hown5, hb5⟩
  rw [txr_prof] at hown5
  have HB5 : Hid (Bel w w5) := ((HB4.out.al _).al _).tr hb5
  obtain ⟨A5, c5, rfl, hz5, _⟩ := row_zi hown5 rfl
  have HZ5 := Lib.hid hz5
  clear hown5 hb5 hz5 hq
  go_wp2_with fail
  go_at_call 11
  refine (ints_same A5 _ c5 2 2 [5, 0] (by decide) _ (HZ5.out.bel (Bel.rf.al _)) (zi_bk (Bk.nw _ 3 (zs [5, 0]).toArray) 2 rfl)).mono ?_
  rintro e w6 ⟨rfl, hb6⟩
  go_wp2
  go_ret
  exact ⟨rfl, (HB5.out.al _).tr hb6⟩
end Go.Proofs.YtnjojdmmalmhaaaGreatDoor.Tp
namespace Go.Proofs.YtnjojdmmalmhaaaGreatDoor.Tp
open Go.ChangeShapes Go.WideShapes Go.RowKit Wo Sr Wi
open Se (Tl cks tl_all)
set_option linter.unusedVariables false
/-- the sum of what is not missing -/
def nm (l : List Int) : Int := (l.map fun x => if x = 1073741824 then 0 else x).sum
theorem nm_app (a b : List Int) : nm (a ++ b) = nm a + nm b := by unfold nm; rw [List.map_append, List.sum_append]
theorem nm_zero : ∀ (l : List Int), (∀ x ∈ l, x = 1073741824) → nm l = 0
  | [], _ => rfl
  | x :: l, h => by
    have h1 := nm_zero l (fun y hy => h y (by simp [hy]))
    have h2 := h x (by simp)
    unfold nm at h1 ⊢
    rw [List.map_cons, List.sum_cons, h1, if_pos h2]; rfl
theorem nm_all : ∀ (l : List Int), (∀ x ∈ l, x ≠ 1073741824) → nm l = l.sum
  | [], _ => rfl
  | x :: l, h => by
    have h1 := nm_all l (fun y hy => h y (by simp [hy]))
    have h2 := h x (by simp)
    unfold nm at h1 ⊢
    rw [List.map_cons, List.sum_cons, h1, if_neg h2, List.sum_cons]
theorem nm_snoc (l : List Int) (x : Int) : nm (l ++ [x]) = nm l + (if x = 1073741824 then 0 else x) := by
  rw [nm_app]; congr 1; simp [nm]
theorem mem_part {W : List Int} {E k : Nat} {x : Int} (h : x ∈ (W.drop E).take k) : ∃ j, j < k ∧ E + j < W.length ∧ x = W.getD (E + j) 1073741824 := by
  obtain ⟨j, hj, e⟩ := List.mem_iff_getElem.1 h
  have h1 : j < k ∧ E + j < W.length := by rw [List.length_take, List.length_drop] at hj; omega
  refine ⟨j, h1.1, h1.2, ?_⟩
  rw [← e, List.getElem_take, List.getElem_drop, List.getD_eq_getElem?_getD, List.getElem?_eq_getElem h1.2]; rfl
/-- the sums of the pieces -/
def psum (W : List Int) (l : List (Nat × Nat)) : Int := (l.map fun p => ((W.drop p.1).take p.2).sum).sum
theorem tl_nm {W : List Int} : ∀ (l : List (Nat × Nat)) (E : Nat), Tl W E l → nm (W.drop E) = psum W l
  | [], E, h => by
    show _ = 0
    refine nm_zero _ (fun x hx => ?_)
    obtain ⟨j, hj, e⟩ := List.mem_iff_getElem.1 hx
    rw [List.length_drop] at hj
    rw [List.getElem_drop] at e
    have := h.2 (E + j) (by omega) (by omega)
    rw [List.getD_eq_getElem?_getD, List.getElem?_eq_getElem (by omega)] at this
    rw [← e]; exact this
  | p :: l, E, ⟨h1, h2, h3, h4, h5, h6⟩ => by
    have ih := tl_nm l _ h6
    have e1 : W.drop E = (W.drop E).take (p.1 - E) ++ W.drop p.1 := by
      have := (List.take_append_drop (p.1 - E) (W.drop E)).symm
      rwa [List.drop_drop, show E + (p.1 - E) = p.1 by omega] at this
    have e2 : W.drop p.1 = (W.drop p.1).take p.2 ++ W.drop (p.1 + p.2) := by
      have := (List.take_append_drop p.2 (W.drop p.1)).symm
      rwa [List.drop_drop] at this
    have z1 : nm ((W.drop E).take (p.1 - E)) = 0 := nm_zero _ (fun x hx => by
      obtain ⟨j, hj, hl, e⟩ := mem_part hx
      rw [e]; exact h2 (E + j) (by omega) (by omega))
    have z2 : nm ((W.drop p.1).take p.2) = ((W.drop p.1).take p.2).sum := nm_all _ (fun x hx => by
      obtain ⟨j, hj, hl, e⟩ := mem_part hx
      rw [e]; exact h5 j hj)
    rw [e1, nm_app, z1, e2, nm_app, z2, ih]
    unfold psum
    rw [List.map_cons, List.sum_cons, Int.zero_add]
theorem psum_all (L : List Int) : psum L (cks L) = nm L := by
  have := tl_nm (cks L) 0 (tl_all L)
  rw [List.drop_zero] at this
  exact this.symm
theorem psum_take (L : List Int) (cs : List (Nat × Nat)) (t : Nat) (h : t < cs.length) : psum L (cs.take (t + 1)) = psum L (cs.take t) + ((L.drop (cs.getD t (0, 0)).1).take (cs.getD t (0, 0)).2).sum := by
  unfold psum
  rw [List.take_succ_eq_append_getElem h, List.map_append, List.sum_append]
  simp [List.getD_eq_getElem?_getD, h]
theorem nm_take (L : List Int) (t : Nat) (h : t < L.length) : nm (L.take (t + 1)) = nm (L.take t) + (if L.getD t 0 = 1073741824 then 0 else L.getD t 0) := by
  rw [List.take_succ_eq_append_getElem h, nm_snoc]
  simp [List.getD_eq_getElem?_getD, h]
theorem nm_bd {L : List Int} (h : Se.Sv L) : ∀ j, j ≤ L.length → -(1000 * (j : Int)) ≤ nm (L.take j) ∧ nm (L.take j) ≤ 1000 * (j : Int)
  | 0, _ => by simp [nm]
  | j + 1, hj => by
    have ih := nm_bd h j (by omega)
    rw [nm_take L j (by omega)]
    have hx : L.getD j 0 ∈ L := by
      rw [List.getD_eq_getElem?_getD, List.getElem?_eq_getElem (by omega)]
      exact List.getElem_mem _
    have := h _ hx
    split <;> omega
theorem sum_bd : ∀ (l : List Int), (∀ x ∈ l, -1000 ≤ x ∧ x ≤ 1000) → -(1000 * (l.length : Int)) ≤ l.sum ∧ l.sum ≤ 1000 * (l.length : Int)
  | [], _ => by simp
  | x :: l, h => by
    have ih := sum_bd l (fun y hy => h y (by simp [hy]))
    have := h x (by simp)
    rw [List.sum_cons, List.length_cons]
    omega
theorem ps_bd {L : List Int} (cs : List (Nat × Nat)) (hb : ∀ t, t < cs.length → -64000 ≤ ((L.drop (cs.getD t (0, 0)).1).take (cs.getD t (0, 0)).2).sum ∧ ((L.drop (cs.getD t (0, 0)).1).take (cs.getD t (0, 0)).2).sum ≤ 64000) : ∀ j, j ≤ cs.length → -(64000 * (j : Int)) ≤ psum L (cs.take j) ∧ psum L (cs.take j) ≤ 64000 * (j : Int)
  | 0, _ => by simp [psum]
  | j + 1, hj => by
    have ih := ps_bd cs hb j (by omega)
    have := hb j (by omega)
    rw [psum_take L cs j (by omega)]
    omega
/-- what is laid -/
def Lt (w : World) : Prop := Un.Pows w
theorem lt_of {W : World} (h : laidMetH Tryz.prog [("math/bits.deBruijn32tab", Rows.laid_math_bits_deBruijn32tab), ("math/bits.deBruijn64tab", Rows.laid_math_bits_deBruijn64tab), ("internal/strconv.uint64pow10", Rows.laid_internal_strconv_uint64pow10), ("unicode/utf8.acceptRanges", Rows.laid_unicode_utf8_acceptRanges), ("strconv.ErrRange", Rows.laid_strconv_ErrRange), ("strconv.ErrSyntax", Rows.laid_strconv_ErrSyntax), ("shapesearch/unit.powers", Rows.laid_shapesearch_unit_powers), ("unicode/utf8.first", Rows.laid_unicode_utf8_first)] W) : Lt W := by
  rw [MakeChecks.laidMetH_plain _ _ _ (by kernel_rfl)] at h
  have h2 := h.tail.tail
  have h6 := h2.tail.tail.tail.tail
  have t : Lib.TabIs Tryz.prog W "shapesearch/unit.powers" .i64 [1, 10, 100, 1000, 10000, 100000, 1000000] :=
    Lib.tabIs_of_head (g := 0) (t := 171) (e := 3) (n := 7) (by kernel_rfl) (by kernel_rfl) Tryz.underlying171 Tryz.underlying3 (by kernel_rfl) (by kernel_rfl) h6
  intro i hi
  have := t.cell (g := 0) (by kernel_rfl) i (by simp; omega)
  rw [this]
  match i, hi with
  | 0, _ => rfl
  | 1, _ => rfl
  | 2, _ => rfl
  | 3, _ => rfl
  | 4, _ => rfl
  | 5, _ => rfl
  | 6, _ => rfl
set_option maxHeartbeats 2000000 in
theorem equal_yes (st sp : Int) (A A' : Option Addr) (c c' n : Nat) (L : List Int) (hn : n ≤ 2000) (w : World) (h1 : Zi w A n L) (h2 : Zi w A' n L) :
    Calls Tryz.prog 9 #[.agg #[.int .i64 st, .int .i64 sp, .slice A n c], .agg #[.int .i64 st, .int .i64 sp, .slice A' n c']] w fun e w' => e = .returned (.bool true) ∧ Bel w w' := by
  have H1 := Lib.hid h1
  have H2 := Lib.hid h2
  have k1 := ne_self st
  have k2 := ne_self sp
  have k3 : (st == st) = true := by simp
  have k4 : (sp == sp) = true := by simp
  clear h1 h2
  go_enter Tryz.func9, Tryz.ntmps9
  go_wp2_with fail
  go_at_call 11
  refine (ints_same A A' c c' n L (by omega) _ (H1.out.bel ((Bel.rf.al _).al _)) (H2.out.bel ((Bel.rf.al _).al _))).mono ?_
  rintro e w1 ⟨rfl, hb1⟩
  go_wp2
  go_ret
  exact ⟨rfl, ((Bel.rf.al _).al _).tr hb1⟩
end Go.Proofs.YtnjojdmmalmhaaaGreatDoor.Tp
