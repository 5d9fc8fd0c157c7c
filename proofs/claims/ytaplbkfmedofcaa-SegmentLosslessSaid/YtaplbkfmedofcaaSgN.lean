/- segment.Encode of samples that have a segment. -/
import Derived.Test.YtaplbkfmedofcaaSgS
namespace Go.Proofs.Ytaplbkfmedofcaa.Sg
open Go.ChangeShapes Go.WideShapes Go.RowKit Wo Bm By Cd Pk Cr
open Wi (Zi zi_bk)
open Sr (zs zs_at zs_len)
set_option linter.unusedVariables false
theorem sample_ok (n : Int) (h0 : -1000 ≤ n) (h1 : n ≤ 1000) (w : World) : Calls Try.prog 42 #[.int .i64 n] w fun e w' => e = .returned (.bool true) ∧ w = w' := by
  go_enter Try.func42, Try.ntmps42
  go_wp2
  go_ret
  exact ⟨rfl, rfl⟩
theorem sample_bad (n : Int) (h : n < -1000 ∨ 1000 < n) (w : World) : Calls Try.prog 42 #[.int .i64 n] w fun e w' => e = .returned (.bool false) ∧ w = w' := by
  rcases h with h | h
  · have h1 : ¬ -1000 ≤ n := by omega
    go_enter Try.func42, Try.ntmps42
    go_wp2
    go_ret
    exact ⟨rfl, rfl⟩
  · have h1 : ¬ n ≤ 1000 := by omega
    have h2 : -1000 ≤ n := by omega
    go_enter Try.func42, Try.ntmps42
    go_wp2
    go_ret
    exact ⟨rfl, rfl⟩
set_option maxHeartbeats 4000000 in
theorem samples_any (A : Option Addr) (c n : Nat) (L : List Int) (hn : n ≤ 1000000) (w : World) (h : Zi w A n L) :
    Calls Try.prog 28 #[.slice A n c] w fun e w' => (∃ b, e = .returned (.bool b) ∧ (b = true ↔ Wi.Sam L)) ∧ Bel w w' := by
  have H1 := Lib.hid h
  have hl := Lib.hid h.1
  have ni : (n : Int) ≤ 1000000 := by omega
  clear h
  go_enter Try.func28, Try.ntmps28
  go_wp2
  go_loopw [7] (fun s7 wr => ∃ (k : Nat) (V : World), V = wr ∧ k ≤ n ∧ s7 = .int .i64 (k : Int) ∧ (∀ j, j < k → -1000 ≤ L.getD j 0 ∧ L.getD j 0 ≤ 1000) ∧ Bel w wr) (fun s7 _ => n - (intOf s7).toNat)
  case atStart => exact ⟨0, _, rfl, by omega, rfl, fun j hj => by omega, Bel.rf⟩
  case round =>
    obtain ⟨k, wr, hwr, hk, rfl, hall, hb⟩ := hrel
    subst hwr
    have HB := Lib.hid hb
    have HAL := Lib.hid hall
    rcases Nat.lt_or_ge k n with hlt | hge
    · obtain ⟨ad, rfl, hab, hac⟩ := (H1.out.bel hb).2 (by omega)
      have c1 := hac k hlt
      obtain ⟨x, hxe⟩ : ∃ x, L.getD k 0 = x := ⟨_, rfl⟩
      rw [hxe] at c1
      have HXE := Lib.hid hxe
      have ki : (k : Int) < (n : Int) := by omega
      clear hb hac hab hxe hall
      rcases (show (x < -1000 ∨ 1000 < x) ∨ (-1000 ≤ x ∧ x ≤ 1000) by omega) with hx | ⟨x0, x1⟩
      · have HNO : Hid (¬ Wi.Sam L) := fun hs => by have := hs.at k; rw [HXE.out] at this; omega
        have SB := Lib.hid (fun W => sample_bad x hx W)
        clear hx
        go_wp2_with (go_at_call 42; refine (SB.out _).mono ?_; rintro e w' ⟨rfl, rfl⟩)
        go_ret
        exact ⟨⟨false, rfl, by simpa using HNO.out⟩, by first | exact HB.out | exact HB.out.drwN _ | exact HB.out.drw⟩
      · go_wp2_with (go_at_call 42; refine (sample_ok x x0 x1 _).mono ?_; rintro e w' ⟨rfl, rfl⟩)
        go_roundw
        case rel => exact ⟨k + 1, _, rfl, by omega, by go_num, fun j hj => by
          rcases Nat.lt_or_ge j k with h | h
          · exact HAL.out j h
          · obtain rfl : j = k := by omega
            rw [HXE.out]; exact ⟨x0, x1⟩, by first | exact HB.out | exact HB.out.drwN _ | exact HB.out.drw⟩
        case measure => simp [intOf]; omega
    · obtain rfl : k = n := by omega
      have HYES : Hid (Wi.Sam L) := fun y hy => by
        obtain ⟨i, hi, rfl⟩ := List.getElem_of_mem hy
        have := hall i (by have := hl.out; omega)
        simpa [List.getD_eq_getElem?_getD, hi] using this
      clear hb hall
      go_wp2
      go_ret
      exact ⟨⟨true, rfl, by simpa using HYES.out⟩, HB.out⟩
def nb (x : List Int) (k : Nat) : Int := if k = 0 then (x.length : Int) else if k = 1 then mn x else if k = 2 then mx x - mn x else x.sum
def prf (x : List Int) : Nat → List Nat
  | 0 => [kd x]
  | k + 1 => prf x k ++ bytesOf (nb x k)
theorem prf_all (x : List Int) : prf x 4 ++ dt x = bod x := by simp [prf, nb, bod]
theorem nb_in {x : List Int} (h : Vx x) (k : Nat) : In64 (nb x k) := by
  obtain ⟨a1, a2, a3, a4, _⟩ := heads_in h
  unfold nb
  split
  · exact a1
  · split
    · exact a2
    · split
      · exact a3
      · exact a4
theorem prf_len (x : List Int) : ∀ k, 1 ≤ (prf x k).length ∧ (prf x k).length ≤ 1 + 10 * k
  | 0 => by simp [prf]
  | k + 1 => by
    have := prf_len x k
    have := bytesOf_len (nb x k)
    simp only [prf, List.length_append]
    omega
def NRel (x : List Int) (g : Nat) (w0 : World) (s6 s42 : Value) (wr : World) : Prop := ∃ (k N : Nat) (V : World) (u : Value), V = wr ∧ u = s6 ∧ k ≤ 4 ∧ s42 = .int .i64 (k : Int) ∧ (prf x k).length = N ∧ wr.ownsRow w0.heap.size 5 1 s6 N (bys (prf x k)) ∧ Bel w0 wr ∧ Bk wr g 3 #[.int .i64 (nb x 0), .int .i64 (nb x 1), .int .i64 (nb x 2), .int .i64 (nb x 3)]
theorem own_bel1 {w w' : World} {base n : Nat} {v : Value} {xs : List Value} (h : w.ownsRow base 5 1 v n xs) (hb : Bel w w') : w'.ownsRow base 5 1 v n xs := Wi.own_bel h hb
theorem bk_own {w w' : World} {base n g : Nat} {v : Value} {xs : List Value} {cs : Array Value} (h : Bk w g 3 cs) (hg : w.grownBy w' v.ownBlock) (ho : w.ownsRow base 5 1 v n xs) : Bk w' g 3 cs := by
  refine (hg.block g h.lt (fun e => ?_)).trans h
  rcases ho.2 with ⟨rfl, _⟩ | ⟨g', cap, cur, rfl, _, hg', _⟩
  · cases e
  · cases e
    unfold Bk at h
    rw [h] at hg'
    cases hg'
theorem own_base {w : World} {B C n : Nat} {e : TypeId} {v : Value} {xs : List Value} (h : w.ownsRow B e 1 v n xs) (hc : C ≤ B) : w.ownsRow C e 1 v n xs := by
  refine ⟨h.1, ?_⟩
  rcases h.2 with hn | ⟨g, cap, cur, rfl, hb, rest⟩
  · exact .inl hn
  · exact .inr ⟨g, cap, cur, rfl, by omega, rest⟩
/-- what Encode gives of samples: a row of the call's own -/
def SomeSeg (D : List Nat) (w : World) (e : Ending) (w' : World) : Prop := ∃ (u : Value), e = .returned (.tuple #[u, .int .i64 0]) ∧ w'.ownsRow w.heap.size 5 1 u D.length (bys D) ∧ Bel w w'
set_option maxHeartbeats 4000000 in
set_option maxRecDepth 100000 in
theorem enc_ok (h o c n : Nat) (x : List Int) (hv : Vx x) (hn : x.length = n) (w : World) (hz : Zi w (some ⟨h, o, none⟩) n x) :
    Calls Try.prog 11 #[.slice (some ⟨h, o, none⟩) n c] w (SomeSeg (seg x) w) := by
  obtain ⟨j0, hi0, hz0, hz1, hz2⟩ := info_parts info_u8
  have HJ := Lib.hid (And.intro hi0 (And.intro hz0 (And.intro hz1 hz2)))
  clear hi0 hz0 hz1 hz2
  have hn1 : 1 ≤ n ∧ n ≤ 64 := by have := hv.1; have := hv.2.1; omega
  have HSA : Hid (∀ W, Bel w W → Calls Try.prog 28 #[.slice (some ⟨h, o, none⟩) n c] W fun e w' => e = .returned (.bool true) ∧ Bel W w') := fun W hb => by
    refine (samples_any _ c n x (by omega) W (hz.bel hb)).mono ?_
    rintro e w' ⟨⟨b, rfl, hbb⟩, hb'⟩
    rw [hbb.2 hv.2.2]
    exact ⟨rfl, hb'⟩
  have HBE : Hid (∀ W, Bel w W → Calls Try.prog 29 #[.slice (some ⟨h, o, none⟩) n c] W fun e w' => ∃ (A : Option Addr) (N c : Nat), e = .returned (.tuple #[.agg #[.int .i64 (kd x : Int), .int .i64 (n : Int), .int .i64 (mn x), .int .i64 (mx x), .int .i64 x.sum], .slice A N c]) ∧ (dt x).length = N ∧ Rd w' A N (dt x) ∧ (A = none → c = 0) ∧ Bel W w') := fun W hb => by
    have h9 := best_ok h o c n x hv hn W (hz.bel hb)
    unfold SomeBest hdv at h9
    rw [hn] at h9
    exact h9
  have HN := Lib.hid hn
  have HPN : Hid (∀ k W, _) := fun k W => putn (nb x k) (nb_in hv k) (bytesOf (nb x k)).length rfl W
  have HV := Lib.hid hv
  have HBL := Lib.hid (bod_len hv)
  have HBB := Lib.hid (bod_byte hv)
  have ni0 : ¬ (n : Int) < 1 := by omega
  have ni1 : ¬ 64 < (n : Int) := by omega
  obtain ⟨D, hD⟩ : ∃ D, mx x - mn x = D := ⟨_, rfl⟩
  have wD : wrap64 D = D := IntWalk.wrap64_in _ (by have := mn_in hv.2.2 hv.1; have := mx_in hv.2.2 hv.1; omega)
  have k256 : ((kd x : Nat) : Int) % 256 = (kd x : Int) := by have := kd_lt x; omega
  have hkl := kd_lt x
  have e0 : nb x 0 = (n : Int) := by rw [← hn]; rfl
  have e1 : nb x 1 = mn x := rfl
  have e2 : nb x 2 = D := hD
  have e3 : nb x 3 = x.sum := rfl
  have HE := Lib.hid (And.intro e0 (And.intro e1 (And.intro e2 e3)))
  clear hz hv hn e0 e1 e2 e3
  go_enter Try.func11, Try.ntmps11
  go_wp2_with (first
    | (go_at_call 28; refine (HSA.out _ (by first | exact Bel.rf | exact Bel.rf.drwN _)).mono ?_; rintro e w1 ⟨rfl, hb1⟩; have HB1 : Hid (Bel w w1) := (by first | exact hb1 | exact (Bel.rf.drwN _).tr hb1); clear hb1)
    | (go_at_call 29; refine (HBE.out _ (by first | exact HB1.out | exact HB1.out.drwN _)).mono ?_; rintro e w2 ⟨A2, N2, c2, rfl, hN2, hr2, hA2, hb2⟩; have HR2 := Lib.hid (And.intro hN2 (And.intro hr2 hA2)); have HB2 : Hid (Bel w w2) := (by first | exact HB1.out.tr hb2 | exact (HB1.out.drwN _).tr hb2); clear hN2 hr2 hA2 hb2))
  have HR0 : Hid (NRel x (w2.heap.size + 2) w2 (.slice (some ⟨w2.heap.size + 1, 0, none⟩) 1 1) (.int .i64 0) (((w2.alloc (.cells #[.int .i64 (kd x : Int), .int .i64 (n : Int), .int .i64 (mn x), .int .i64 (mx x), .int .i64 x.sum] 34)).alloc (.cells #[.int .u8 (kd x : Int)] 5)).alloc (.cells #[.int .i64 (n : Int), .int .i64 (mn x), .int .i64 D, .int .i64 x.sum] 3))) := by
    obtain ⟨e0, e1, e2, e3⟩ := HE.out
    refine ⟨0, 1, _, _, rfl, rfl, by omega, rfl, rfl, ?_, ((Bel.rf.al _).al _).al _, ?_⟩
    · have h9 := (World.ownsRow_lit (base := w2.heap.size) (e := 5) (size := 1) (w2.alloc (.cells #[.int .i64 (kd x : Int), .int .i64 (n : Int), .int .i64 (mn x), .int .i64 (mx x), .int .i64 x.sum] 34)) #[.int .u8 (kd x : Int)] 1 (by simp) (by unfold maxLen; omega) rfl).alloc (.cells #[.int .i64 (n : Int), .int .i64 (mn x), .int .i64 D, .int .i64 x.sum] 3)
      simpa [prf, bys] using h9
    · rw [e0, e1, e2, e3]; exact Bk.nq _ _ _ (by simp)
  (try simp only [wD])
  go_loopw [6, 42] (fun s6 s42 wr => NRel x (w2.heap.size + 2) w2 s6 s42 wr) (fun _ s42 _ => 4 - (intOf s42).toNat)
  case atStart => exact HR0.out
  case round =>
    clear HR0 HSA HBE
    obtain ⟨k, N, wr, u, hwr, hu, hk, rfl, hN, ho, hb, hbk⟩ := hrel
    subst hwr hu
    have HO := Lib.hid ho
    have HB := Lib.hid hb
    have HK := Lib.hid hbk
    have HNN := Lib.hid hN
    have hNb := prf_len x k
    rw [hN] at hNb
    rcases Nat.lt_or_ge k 4 with hlt | hge
    · have c1 : wr.cell? ⟨w2.heap.size + 2, k, none⟩ = some (.int .i64 (nb x k)) := by
        rw [hbk.cell k]
        rcases (show k = 0 ∨ k = 1 ∨ k = 2 ∨ k = 3 by omega) with rfl | rfl | rfl | rfl <;> rfl
      obtain ⟨z, hz⟩ : ∃ z, nb x k = z := ⟨_, rfl⟩
      have HP := HPN
      have hp := HPN.out k
      have hlen := bytesOf_len (nb x k)
      rw [hz] at c1 hp hlen
      have HPK := Lib.hid hp
      have HZ2 := Lib.hid hz
      obtain ⟨q, hq⟩ : ∃ q, (bytesOf z).length = q := ⟨_, rfl⟩
      rw [hq] at HPK hlen
      have HQ := Lib.hid hq
      have ki : (k : Int) < 4 := by omega
      clear HP hp hz hq ho hb hbk hN
      go_wp2_with (first
        | (go_at_call 30; refine (HPK.out _).mono ?_; rintro e w4 ⟨g4, rfl, ho4, hb4⟩; have HR4 : Hid (Rd w4 (some ⟨g4, 0, none⟩) q (bytesOf z)) := Rd.own ho4 (by rw [← HZ2.out]; exact bytesOf_byte (nb_in HV.out k)) HQ.out; have HB4 := Lib.hid hb4; have HO4 := Lib.hid (own_bel1 HO.out hb4); clear ho4 hb4)
        | (at_builtin; refine wpList_append_rd rfl (.tmp 46) (.tmp 48) 23 rfl w2.heap.size 5 j0 (.int .u8 0) Try.underlying23 HJ.out.1 HJ.out.2.1 HJ.out.2.2.1 HJ.out.2.2.2 rfl u N (bys (prf x k)) rfl HO4.out (some ⟨g4, 0, none⟩) q 10 (bytesOf z) rfl HR4.out (fun h => by cases h) (by omega) ((HB.out.tr HB4.out).size) ?_; intro u5 w5 ho5 hg5; have HO5 := Lib.hid ho5; have HB5 : Hid (Bel w2 w5) := (Below.grown (HB.out.tr HB4.out).bl hg5 ((HB.out.tr HB4.out).size) (fun b e => (HO.out.lt b e).1)); have HK5 : Hid (Bk w5 (w2.heap.size + 2) 3 #[.int .i64 (nb x 0), .int .i64 (nb x 1), .int .i64 (nb x 2), .int .i64 (nb x 3)]) := (bk_own (HK.out.bel HB4.out) hg5 HO4.out); clear ho5 hg5))
      go_roundw
      case rel => exact ⟨k + 1, N + q, _, _, rfl, rfl, by omega, by go_num, by rw [prf, List.length_append, HNN.out, HZ2.out, HQ.out], by rw [prf, HZ2.out, bys_app]; exact HO5.out, HB5.out, HK5.out⟩
      case measure => simp [intOf]; omega
    · obtain rfl : k = 4 := by omega
      have HA := Lib.hid (prf_all x)
      clear ho hb hbk hN HPN
      have h0 : 0 ≤ kd x := Nat.zero_le _
      obtain ⟨hd1, hd2, hd3⟩ := HR2.out
      have HD1 := Lib.hid hd1
      have HD2 := Lib.hid (hd2.bel HB.out)
      have HD3 := Lib.hid hd3
      have hdl := dt_len HV.out
      rw [hd1] at hdl
      have HBF : Hid ((bod x).length = N + N2) := by show _ = _; rw [← HA.out, List.length_append, HNN.out, HD1.out]
      have hbl := HBL.out
      rw [HBF.out] at hbl
      clear hd1 hd2 hd3
      go_wp2_with (first
        | (at_builtin; refine wpList_append_rd rfl (.tmp 51) (.tmp 52) 23 rfl w2.heap.size 5 j0 (.int .u8 0) Try.underlying23 HJ.out.1 HJ.out.2.1 HJ.out.2.2.1 HJ.out.2.2.2 rfl u N (bys (prf x 4)) rfl HO.out A2 N2 c2 (dt x) rfl HD2.out HD3.out (by omega) HB.out.size ?_; intro u5 w5 ho5 hg5; have HO5 : Hid (w5.ownsRow w2.heap.size 5 1 u5 (N + N2) (bys (bod x))) := (by have h9 := ho5; rw [← bys_app, HA.out] at h9; exact h9); have HB5 : Hid (Bel w2 w5) := (Below.grown HB.out.bl hg5 HB.out.size (fun b e => (HO.out.lt b e).1)); clear ho5 hg5; obtain ⟨g5, c5, rfl, hc5, hm5, hg5, hr5⟩ := own_rd HO5.out HBB.out HBF.out (by omega); have HR5 := Lib.hid hr5; clear hr5)
        | (go_at_call 31; go_loud (refine (seal_ok (some ⟨g5, 0, none⟩) c5 (N + N2) (bod x) HBF.out (by omega) _ HR5.out).mono ?_; rintro e w6 ⟨g6, rfl, hg6, hk6, hb6⟩; have HR6 : Hid (Rd w6 (some ⟨g6, 0, none⟩) 4 (seal4 (crc (bod x)))) := Pk.rd_bk hk6 (seal4_byte _) 4 rfl; have HB6 := Lib.hid hb6; have HO6 := Lib.hid (own_bel1 HO5.out hb6); clear hk6 hb6))
        | (at_builtin; refine wpList_append_rd rfl (.tmp 54) (.tmp 56) 23 rfl w2.heap.size 5 j0 (.int .u8 0) Try.underlying23 HJ.out.1 HJ.out.2.1 HJ.out.2.2.1 HJ.out.2.2.2 rfl (.slice (some ⟨g5, 0, none⟩) (N + N2) c5) (N + N2) (bys (bod x)) rfl HO6.out (some ⟨g6, 0, none⟩) 4 4 (seal4 (crc (bod x))) rfl HR6.out (fun h => by cases h) (by omega) ((HB5.out.tr HB6.out).size) ?_; intro u7 w7 ho7 hg7; have HO7 := Lib.hid ho7; have HB7 : Hid (Bel w2 w7) := (Below.grown (HB5.out.tr HB6.out).bl hg7 ((HB5.out.tr HB6.out).size) (fun b e => (HO6.out.lt b e).1)); clear ho7 hg7))
      go_ret2
      have h9 := HO7.out
      rw [← bys_app] at h9
      have hl9 : (seg x).length = N + N2 + 4 := by rw [(seg_len HV.out).2.2, HBF.out]
      refine ⟨_, rfl, ?_, HB2.out.tr HB7.out⟩
      rw [hl9]
      exact own_base h9 HB2.out.size
end Go.Proofs.Ytaplbkfmedofcaa.Sg
