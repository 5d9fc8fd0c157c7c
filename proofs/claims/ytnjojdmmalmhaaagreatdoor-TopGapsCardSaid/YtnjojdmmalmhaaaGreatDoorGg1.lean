/- Merged: GapM GapS GapL. -/
import Derived.Test.YtnjojdmmalmhaaaGreatDoorGl1
import Derived.Test.YtnjojdmmalmhaaaGreatDoorGl2
import Derived.Test.YtnjojdmmalmhaaaGreatDoorGl3
import Derived.Test.YtnjojdmmalmhaaaGreatDoorGl4
import Derived.Test.YtnjojdmmalmhaaaGreatDoorGl5
import Derived.Test.YtnjojdmmalmhaaaGreatDoorGl6
import Derived.Test.YtnjojdmmalmhaaaGreatDoorGl7
import Derived.Test.YtnjojdmmalmhaaaGreatDoorGr1
namespace Go.Proofs.YtnjojdmmalmhaaaGreatDoor.Rm
set_option linter.unusedVariables false
theorem avg_in {p q a b : Int} (a0 : 0 ≤ a) (b0 : 0 ≤ b) (hn : 1 ≤ b + a) (h : p ≤ q) : (p ≤ hup (p * a + q * b) (b + a) ∧ hup (p * a + q * b) (b + a) ≤ q) ∧ (p ≤ hup (q * a + p * b) (b + a) ∧ hup (q * a + p * b) (b + a) ≤ q) := by
  have m1 := Int.mul_le_mul_of_nonneg_right h a0
  have m2 := Int.mul_le_mul_of_nonneg_right h b0
  have e1 : p * (b + a) = p * b + p * a := by grind
  have e2 : q * (b + a) = q * b + q * a := by grind
  have k1 := hup_mono (a := p * (b + a)) (b := p * a + q * b) (n := b + a) (by omega) (by omega)
  have k2 := hup_mono (a := p * a + q * b) (b := q * (b + a)) (n := b + a) (by omega) (by omega)
  have k3 := hup_mono (a := p * (b + a)) (b := q * a + p * b) (n := b + a) (by omega) (by omega)
  have k4 := hup_mono (a := q * a + p * b) (b := q * (b + a)) (n := b + a) (by omega) (by omega)
  rw [hup_mul p (by omega)] at k1 k3
  rw [hup_mul q (by omega)] at k2 k4
  exact ⟨⟨k1, k2⟩, k3, k4⟩
theorem bv_of {l : List Rp} {t r : Int} (hr : r ≤ 1099511627776) (h : bck l t ≤ r) : ∃ i, i < l.length ∧ bv l t = vl l i := by
  unfold bck at h
  have hle := lb_le l t
  split at h
  · rename_i h0
    exact ⟨lb l t - 1, by omega, by unfold bv; rw [if_pos h0]⟩
  · exfalso; unfold far at h; omega
theorem av_of {l : List Rp} {t r : Int} (hr : r ≤ 1099511627776) (h : ahd l t ≤ r) : ∃ i, i < l.length ∧ av l t = vl l i := by
  unfold ahd at h
  split at h
  · rename_i h0
    exact ⟨lb l t, h0, by unfold av; rw [if_pos h0]⟩
  · exfalso; unfold far at h; omega
theorem val_rng {l : List Rp} (h : Asc l) {t : Int} (h0 : 0 ≤ t) (h1 : t ≤ 1099511627776) {rule r : Int} (hr : r ≤ 1099511627776) (hv : (val l rule r t).2 = true) :
    (∃ i, i < l.length ∧ vl l i ≤ (val l rule r t).1) ∧ (∃ i, i < l.length ∧ (val l rule r t).1 ≤ vl l i) := by
  have hb := bck_in h h0 h1
  have ha := ahd_in h h0 h1
  unfold val at hv ⊢
  split at hv
  · rename_i h2
    rw [if_pos h2]
    exact ⟨⟨_, h2.1, Int.le_refl _⟩, ⟨_, h2.1, Int.le_refl _⟩⟩
  · rename_i h2
    rw [if_neg h2]
    split at hv
    · rename_i h3
      rw [if_pos h3]
      split at hv
      · rename_i h4
        rw [if_pos h4]
        obtain ⟨i, hi, e⟩ := bv_of hr h4
        exact ⟨⟨i, hi, by rw [e]; exact Int.le_refl _⟩, ⟨i, hi, by rw [e]; exact Int.le_refl _⟩⟩
      · simp at hv
    · rename_i h3
      rw [if_neg h3]
      split at hv
      · rename_i h4
        rw [if_pos h4]
        split at hv
        · rename_i h5
          rw [if_pos h5]
          obtain ⟨i, hi, e⟩ := bv_of hr h5.2
          exact ⟨⟨i, hi, by rw [e]; exact Int.le_refl _⟩, ⟨i, hi, by rw [e]; exact Int.le_refl _⟩⟩
        · rename_i h5
          rw [if_neg h5]
          split at hv
          · rename_i h6
            rw [if_pos h6]
            obtain ⟨i, hi, e⟩ := av_of hr h6.2
            exact ⟨⟨i, hi, by rw [e]; exact Int.le_refl _⟩, ⟨i, hi, by rw [e]; exact Int.le_refl _⟩⟩
          · simp at hv
      · rename_i h4
        rw [if_neg h4]
        split at hv
        · rename_i h5
          rw [if_pos h5]
          split at hv
          · rename_i h6
            rw [if_pos h6]
            obtain ⟨i, hi, e⟩ := bv_of hr h6.1
            obtain ⟨j, hj, e'⟩ := av_of hr h6.2
            simp only
            rw [e, e']
            rcases Int.le_total (vl l i) (vl l j) with h7 | h7
            · have := avg_in (a := ahd l t) (b := bck l t) (by omega) (by omega) (by omega) h7
              exact ⟨⟨i, hi, this.1.1⟩, ⟨j, hj, this.1.2⟩⟩
            · have := avg_in (a := ahd l t) (b := bck l t) (by omega) (by omega) (by omega) h7
              exact ⟨⟨j, hj, this.2.1⟩, ⟨i, hi, this.2.2⟩⟩
          · simp at hv
        · simp at hv
theorem val_in {l : List Rp} (h : Asc l) {t : Int} (h0 : 0 ≤ t) (h1 : t ≤ 1099511627776) {rule r : Int} (hr : r ≤ 1099511627776) (hv : (val l rule r t).2 = true) : -1000 ≤ (val l rule r t).1 ∧ (val l rule r t).1 ≤ 1000 := by
  obtain ⟨⟨i, hi, a⟩, ⟨j, hj, b⟩⟩ := val_rng h h0 h1 hr hv
  have := h.1 i hi
  have := h.1 j hj
  omega
end Go.Proofs.YtnjojdmmalmhaaaGreatDoor.Rm
namespace Go.Proofs.YtnjojdmmalmhaaaGreatDoor.Gs
open Go.ChangeShapes Go.WideShapes Go.RowKit Wo Sr Wi Se
set_option linter.unusedVariables false
open Go.RowKit Go.Shelf Wo Sr Wi
def Sw (st sp : Int) (n : Nat) : Prop := 0 ≤ st ∧ st ≤ 1099511627776 ∧ 1 ≤ sp ∧ sp ≤ 20 ∧ n ≤ 2000
theorem end_w (st sp : Int) (A : Option Addr) (n c : Nat) (h : Sw st sp n) (w : World) :
    Calls Tryz.prog 43 #[.agg #[.int .i64 st, .int .i64 sp, .slice A n c]] w fun e w' => e = .returned (.int .i64 (st + sp * (n : Int))) ∧ Bel w w' := by
  obtain ⟨a1, a2, a3, a4, a5⟩ := h
  obtain ⟨p, hp⟩ : ∃ p, sp * (n : Int) = p := ⟨_, rfl⟩
  obtain ⟨p0, p1⟩ := sb_mul a3 a4 (show n ≤ 3000 by omega)
  rw [hp] at p0 p1 ⊢
  have wp1 : IntKind.i64.wrap p = p := IntWalk.i64_in _ (by omega)
  have wp2 : IntKind.i64.wrap (st + p) = st + p := IntWalk.i64_in _ (by omega)
  go_enter Tryz.func43, Tryz.ntmps43
  go_wp2
  go_ret
  exact ⟨rfl, Bel.rf.al _⟩
set_option maxHeartbeats 4000000 in
theorem valid_w (st sp : Int) (A : Option Addr) (n c : Nat) (L : List Int) (h : Sw st sp n) (hs : Sv L) (w : World) (hz : Zi w A n L) :
    Calls Tryz.prog 24 #[.agg #[.int .i64 st, .int .i64 sp, .slice A n c]] w fun e w' => e = .returned (.bool true) ∧ Bel w w' := by
  have EN : Hid (∀ W, _) := fun W => end_w st sp A n c h W
  have VL : Hid (∀ W, Zi W A n L → _) := fun W hW => values_ok A c n L (by have := h.2.2.2.2; omega) hs W hW
  have HZ := Lib.hid hz
  obtain ⟨a1, a2, a3, a4, a5⟩ := h
  obtain ⟨p0, p1⟩ := sb_mul a3 a4 (show n ≤ 3000 by omega)
  obtain ⟨p, hp⟩ : ∃ p, st + sp * (n : Int) = p := ⟨_, rfl⟩
  have pb : p ≤ 2199023255552 := by omega
  rw [hp] at EN
  have ni : (n : Int) ≤ 2000 := by omega
  have HK := Lib.hid (Bk.nw w 24 #[.int .i64 st, .int .i64 sp, .slice A n c])
  clear hs hz hp p0 p1
  go_enter Tryz.func24, Tryz.ntmps24
  go_wp2_with fail
  go_at_call 42
  refine (VL.out _ (HZ.out.bel (Bel.rf.al _))).mono ?_
  rintro e w2 ⟨rfl, hb2⟩
  have B2 := HK.out.bel hb2
  have d0 := B2.cell 0
  have d1 := B2.cell 1
  have d2 := B2.cell 2
  have dl := B2.lt
  have HB2 := Lib.hid hb2
  clear B2 hb2
  go_wp2_with fail
  go_at_call 43
  refine (EN.out _).mono ?_
  rintro e w3 ⟨rfl, hb3⟩
  have HB3 := Lib.hid hb3
  clear hb3
  go_wp2
  go_ret
  exact ⟨rfl, (Bel.rf.al _).tr (HB2.out.tr HB3.out)⟩
set_option maxHeartbeats 4000000 in
theorem window_w (st sp : Int) (A : Option Addr) (n c : Nat) (L : List Int) (h : Sw st sp n) (hs : Sv L) (i m : Nat) (m1 : 1 ≤ m) (m2 : m ≤ 300) (i2 : i ≤ 2500) (w : World) (hv : Vs w A n c L) :
    Calls Tryz.prog 17 #[.agg #[.int .i64 st, .int .i64 sp, .slice A n c], .int .i64 (i : Int), .int .i64 (m : Int)] w (SomeWin L i m w) := by
  have hn : n ≤ 2000 := h.2.2.2.2
  have hl := hv.1.1
  have VA : Hid (∀ W, Zi W A n L → _) := fun W hW => valid_w st sp A n c L h hs W hW
  have HV := Lib.hid hv
  have HK := Lib.hid (Bk.nw w 24 #[.int .i64 st, .int .i64 sp, .slice A n c])
  have mi : 1 ≤ (m : Int) := by omega
  have mi2 : (m : Int) ≤ 300 := by omega
  have ii : (i : Int) ≤ 2500 := by omega
  have ni : (n : Int) ≤ 2000 := by omega
  rcases Nat.lt_or_ge n (i + m) with hlt | hge
  · have hg := good_out (L := L) (i := i) (m := m) (by omega)
    have WN : Hid (∀ W, _) := fun W => within_no st sp A n c i m (by omega) hlt (by omega) (by omega) W
    have HR : Hid (wz L i m = [] ∧ we L i m = 1) := ⟨by unfold wz; rw [hg]; rfl, by unfold we; rw [hg, if_neg (by simp), if_neg (by omega)]⟩
    clear hv hl hg h hs hlt
    go_enter Tryz.func17, Tryz.ntmps17
    go_wp2_with (first
      | (go_at_call 24; refine (VA.out _ (HV.out.1.bel (Bel.rf.al _))).mono ?_; rintro e w2 ⟨rfl, hb2⟩; have B1 := HK.out.bel hb2; have d0 := B1.cell 0; have d1 := B1.cell 1; have d2 := B1.cell 2; have dl := B1.lt; clear B1; have HB2 := Lib.hid hb2; clear hb2)
      | (go_at_call 36; refine (WN.out _).mono ?_; rintro e w3 ⟨rfl, hb3⟩; have HB3 := Lib.hid hb3; clear hb3))
    go_ret2
    refine ⟨none, 0, 0, by rw [HR.out.2]; rfl, by rw [HR.out.1]; rfl, by rw [HR.out.1]; exact ⟨rfl, fun h => by omega⟩, (Bel.rf.al _).tr (HB2.out.tr HB3.out)⟩
  · rcases clone_part A n c L (by omega) i m hge w hv with ⟨_, _, _, hm, _⟩ | ⟨g, rfl, ⟨_, hm, _⟩ | ⟨hci, hcl⟩⟩
    · omega
    · omega
    have WY : Hid (∀ W, _) := fun W => within_yes st sp (some ⟨g, 0, none⟩) n c i m (by omega) hge W
    have CL := Lib.hid hcl
    have CO : Hid (∀ W A' c', Zi W A' m ((L.drop i).take m) → _) := fun W A' c' hW => contains_any A' c' m ((L.drop i).take m) 1073741824 (!good L m i) (by omega) (good_part (by omega)) W hW
    have hnc := hv.2.1
    have s1 : (i : Int) ≤ (c : Int) := by omega
    have s2 : (i : Int) + (m : Int) ≤ (c : Int) := by omega
    have s3 : ((i : Int) + (m : Int)).toNat - i = m := by omega
    have s4 : (i : Int) ≤ (i : Int) + (m : Int) := by omega
    have HLE : Hid (i + m ≤ L.length) := by show _ ≤ _; omega
    obtain ⟨gd, hgd⟩ : ∃ b, good L m i = b := ⟨_, rfl⟩
    rw [hgd] at CO
    cases gd
    · have HR : Hid (wz L i m = [] ∧ we L i m = 13) := ⟨by unfold wz; rw [hgd]; rfl, by unfold we; rw [hgd, if_neg (by simp), if_pos HLE.out]⟩
      clear hv hl hgd h hs hge hcl hnc
      go_enter Tryz.func17, Tryz.ntmps17
      go_wp2_with (first
        | (go_at_call 24; refine (VA.out _ (HV.out.1.bel (Bel.rf.al _))).mono ?_; rintro e w2 ⟨rfl, hb2⟩; have B1 := HK.out.bel hb2; have d0 := B1.cell 0; have d1 := B1.cell 1; have d2 := B1.cell 2; have dl := B1.lt; have HB1 := Lib.hid B1; clear B1; have HB2 := Lib.hid ((Bel.rf.al _).tr hb2); clear hb2)
        | (go_at_call 36; refine (WY.out _).mono ?_; rintro e w3 ⟨rfl, hb3⟩; have B1 := HB1.out.bel hb3; have e0 := B1.cell 0; have e1 := B1.cell 1; have e2 := B1.cell 2; have HB3 := Lib.hid (HB2.out.tr hb3); clear hb3 B1)
        | (go_at_call 37; refine (CL.out _ HB3.out _).mono ?_; rintro e w4 ⟨A4, c4, rfl, hv4, hv4f, hb4⟩; clear hv4f; have HV4 := Lib.hid hv4; have HB4 := Lib.hid (HB3.out.tr hb4); clear hv4 hb4)
        | (go_at_call 38; refine (CO.out _ _ _ HV4.out.1).mono ?_; rintro e w5 ⟨rfl, hb5⟩; have HB5 := Lib.hid (HB4.out.tr hb5); clear hb5))
      go_ret2
      refine ⟨none, 0, 0, by rw [HR.out.2]; rfl, by rw [HR.out.1]; rfl, by rw [HR.out.1]; exact ⟨rfl, fun h => by omega⟩, HB5.out⟩
    · have HR : Hid (wz L i m = (L.drop i).take m ∧ we L i m = 0) := ⟨by unfold wz; rw [hgd]; rfl, by unfold we; rw [hgd]; rfl⟩
      clear hv hl hgd h hs hge hcl hnc
      go_enter Tryz.func17, Tryz.ntmps17
      go_wp2_with (first
        | (go_at_call 24; refine (VA.out _ (HV.out.1.bel (Bel.rf.al _))).mono ?_; rintro e w2 ⟨rfl, hb2⟩; have B1 := HK.out.bel hb2; have d0 := B1.cell 0; have d1 := B1.cell 1; have d2 := B1.cell 2; have dl := B1.lt; have HB1 := Lib.hid B1; clear B1; have HB2 := Lib.hid ((Bel.rf.al _).tr hb2); clear hb2)
        | (go_at_call 36; refine (WY.out _).mono ?_; rintro e w3 ⟨rfl, hb3⟩; have B1 := HB1.out.bel hb3; have e0 := B1.cell 0; have e1 := B1.cell 1; have e2 := B1.cell 2; have HB3 := Lib.hid (HB2.out.tr hb3); clear hb3 B1)
        | (go_at_call 37; refine (CL.out _ HB3.out _).mono ?_; rintro e w4 ⟨A4, c4, rfl, hv4, hv4f, hb4⟩; clear hv4f; have HV4 := Lib.hid hv4; have HB4 := Lib.hid (HB3.out.tr hb4); clear hv4 hb4)
        | (go_at_call 38; refine (CO.out _ _ _ HV4.out.1).mono ?_; rintro e w5 ⟨rfl, hb5⟩; have HB5 := Lib.hid (HB4.out.tr hb5); have HV5 := Lib.hid (HV4.out.1.bel hb5); clear hb5))
      go_ret2
      refine ⟨A4, m, c4, by rw [HR.out.2]; rfl, by rw [HR.out.1, part_len HLE.out], by rw [HR.out.1]; exact HV5.out, HB5.out⟩
attribute [local go_sem] Oper.semAt_some
set_option maxRecDepth 100000 in
set_option maxHeartbeats 4000000 in
theorem starts_w (st sp : Int) (A : Option Addr) (n c m : Nat) (L : List Int) (h : Sw st sp n) (hs : Sv L) (m1 : 1 ≤ m) (m2 : m ≤ 300) (w : World) (hz : Zi w A n L) :
    CallsIn Fence.wide 3 Tryz.prog 10 #[.agg #[.int .i64 st, .int .i64 sp, .slice A n c], .int .i64 (m : Int)] w fun e W' => ∃ v, e = .returned v ∧ W'.ownsRow w.heap.size 3 1 v (sts L m).length (zs ((sts L m).map Int.ofNat)) ∧ Below w.heap.size w W' := by
  have VA : Hid (∀ W, Zi W A n L → _) := fun W hW => valid_w st sp A n c L h hs W hW
  have HZ := Lib.hid hz
  have n2 : n ≤ 2000 := h.2.2.2.2
  have HK1 := Lib.hid ((Bk.nw w 24 #[.int .i64 st, .int .i64 sp, .slice A n c]).al (.cells #[.int .i64 (m : Int)] 3))
  have HK2 := Lib.hid (Bk.nq (w.alloc (.cells #[.int .i64 st, .int .i64 sp, .slice A n c] 24)) 3 #[.int .i64 (m : Int)] (g := w.heap.size + 1) (by simp))
  obtain ⟨i0, hi, hz0, hz1, hz2⟩ := info_parts info_int
  have HI := Lib.hid (And.intro hi (And.intro hz0 (And.intro hz1 hz2)))
  have mi1 : 1 ≤ (m : Int) := by omega
  have mi2 : (m : Int) ≤ 300 := by omega
  have md : decide ((m : Int) < 1) = false := decide_eq_false (by omega)
  clear hz h hs hi hz0 hz1 hz2
  refine callsIn_of_wp_marks Tryz.func10 rfl trivial ?_ rfl
  simp only [Tryz.ntmps10, List.size_toArray, List.length_cons, List.length_nil, Nat.reduceAdd, Nat.reduceSub, Array.replicate_succ, Array.replicate_zero, List.push_toArray, List.append_toArray, List.nil_append, List.cons_append]
  have fV : Fence.wide.fn 24 := trivial
  have fR : Fence.wide.fn 29 := trivial
  gi_wp2_with (first
    | (gi_at_call 24; refine (callsIn_wide.2 (VA.out _ (HZ.out.bel ((Bel.rf.al _).al _)))).mono ?_; rintro e w2 ⟨rfl, hb2⟩; have B1 := HK1.out.bel hb2; have B2 := HK2.out.bel hb2; have d0 := B1.cell 0; have d1 := B1.cell 1; have d2 := B1.cell 2; have dl := B1.lt; have d3 := B2.cell 0; have dl2 := B2.lt; have HB1 := Lib.hid B1; have HB2 := Lib.hid B2; clear B1 B2)
    | (gi_at_call 29; refine (callsIn_wide.2 (runs_ok A n c _)).mono ?_; rintro e w3 ⟨rfl, rfl⟩))
  have hsz : w.heap.size + 2 ≤ w2.heap.size := by have := hb2.size; simp at this; omega
  have hbw2 : Bel w w2 := ((Bel.rf.al _).al _).tr hb2
  have hzw := HZ.out.bel hbw2
  have hne : 0 < n → ∀ ad, A = some ad → ad.block ≠ w2.heap.size := fun h ad e => by have := zi_lt HZ.out ad h e; omega
  have cm2 : w2.cell? ⟨w.heap.size + 1, 0, none⟩ = some (.int .i64 (m : Int)) := HB2.out.cell 0
  clear d0 d1 d2 d3 dl dl2 md hb2
  have bO := Boxed.new w2 22 (.slice none 0 0)
  have bX := Boxed.new (w2.alloc (.cells #[.slice none 0 0] 22)) 22 (.slice A n c)
  simp only [World.size_alloc] at bX
  have hB0 : Below w.heap.size w ((w2.alloc (.cells #[.slice none 0 0] 22)).alloc (.cells #[.slice A n c] 22)) := ((hbw2.al _).al _).bl
  refine wpIn_rangeFunc_ownH rfl (by omega) (gf := 52) (lb := #[.pointer (some ⟨w2.heap.size + 1, 0, none⟩)]) rfl trivial (enters_of Tryz.func52 (by kernel_rfl) rfl)
    (runs_stops 2 (by omega) w2.heap.size (w2.heap.size + 1) A c n L (by omega) _ (by simp) (by omega) bX.cell ((hzw.bel (Bel.rf.al _)).bel (Bel.rf.al _)) hne) kq_t (fun W l o o' hl h2 h3 h4 => kq_b W l o o' hl h2) (Below.refl _ _) (fun _ => rfl)
    (fun pre W => ((∃ v, Boxed W w2.heap.size 22 v ∧ W.ownsRow (w2.heap.size + 2) 3 1 v (stl m pre).length (zs (stl m pre)) ∧ True) ∧ w2.heap.size + 2 ≤ W.heap.size) ∧ Below w2.heap.size w2 W)
    (fun _ _ _ => False)
    (OwnFrom.and (OwnFrom.and (Own.from (holdsRow_own (w2.heap.size + 2) w2.heap.size 22 3 1 (fun pre => (stl m pre).length) (fun pre => zs (stl m pre)) (fun _ _ => True)) _) (fun s A B row h hg hr => Nat.le_trans h hg.size)) (ownFrom_below (Nat.le_refl _) (by simp; omega)))
    (fun _ _ _ _ _ hs _ _ => hs)
    ⟨⟨⟨_, bO.alloc _, World.ownsRow_nil _ _ _ _, trivial⟩, by simp⟩, ((Bel.rf.al _).al _).bl⟩
    (fun x a' W => ∃ Bx, w2.heap.size + 2 ≤ Bx ∧ Bk W Bx 69 #[.int .i64 (x.1.1 : Int), .int .i64 (x.1.2 : Int)] ∧ a' = { tmps := #[.agg #[.int .i64 st, .int .i64 sp, .slice A n c], .int .i64 (m : Int), .pointer (some ⟨w.heap.size, 0, none⟩), .pointer (some ⟨w.heap.size + 1, 0, none⟩), .slice none 0 0, .pointer (some ⟨w2.heap.size, 0, none⟩), .pointer (some ⟨Bx, 0, none⟩), undef, .agg #[.int .i64 st, .int .i64 sp, .slice A n c], .bool true, .bool false, .bool false, .int .i64 (m : Int), .bool false, .bool false, .pointer (some ⟨w.heap.size, 2, none⟩), .slice A n c, .func (.func 52) #[] #[.pointer (some ⟨w2.heap.size + 1, 0, none⟩)], .agg #[.int .i64 (x.1.1 : Int), .int .i64 (x.1.2 : Int)], undef, undef, undef, undef, undef, undef, undef, undef, undef, undef, undef, undef, undef, undef, undef, undef, undef, undef], defers := [] })
    (fun x a' _ A B row hs hg hr => by obtain ⟨Bx, q1, q2, q3⟩ := hs; exact ⟨Bx, q1, bk_own q2 hg hr, q3⟩)
    ?assign ?body ?done ?stop
  case assign =>
    rintro l pre x W K ⟨⟨⟨v, hv, hrow, _⟩, hsz2⟩, hB⟩ hK
    have hvl := hv.lt
    unfold encr
    gi_wp2
    have hbw : Below (w2.heap.size + 2) W (W.alloc (.cells #[.int .i64 (x.1.1 : Int), .int .i64 (x.1.2 : Int)] 69)) := (Below.refl _ W).alloc hsz2 _
    exact hK _ _ ((KeepsOthers.alloc _ _).from _) (by have := kq_bl (Bo := w2.heap.size) hbw hsz2; simpa using this) ⟨⟨⟨v, hv.alloc _, hrow.alloc _, trivial⟩, by simp; omega⟩, hB.alloc hB.size _⟩ ⟨W.heap.size, hsz2, Bk.nw _ _ _, rfl⟩
  case body =>
    rintro l pre x a' W hl ⟨r, hr⟩ ⟨⟨⟨v, hv, hrow, _⟩, hsz2⟩, hB⟩ ⟨Bx, hBx, hkx, rfl⟩ hlt
    have cm : W.cell? ⟨w.heap.size + 1, 0, none⟩ = some (.int .i64 (m : Int)) := Bel.kp hB cm2
    have hx3 := x.2
    have hpl := stl_len m pre
    have hal := stp_all m pre x
    have hze := stp_zero m pre x
    have hln := stp_len m pre x
    have hnx := stp_next m pre x
    obtain ⟨x1, hx1⟩ : ∃ y, x.1.1 = y := ⟨_, rfl⟩
    obtain ⟨x2, hx2⟩ : ∃ y, x.1.2 = y := ⟨_, rfl⟩
    rw [hx1] at hkx hx3 hnx ⊢
    rw [hx2] at hkx hx3 hal ⊢
    obtain ⟨P, hP⟩ : ∃ k, (stl m pre).length = k := ⟨_, rfl⟩
    rw [hP] at hrow hpl hln
    have hcx : W.cell? ⟨Bx, 0, none⟩ = some (.int .i64 (x1 : Int)) := hkx.cell 0
    have hcy : W.cell? ⟨Bx, 1, none⟩ = some (.int .i64 (x2 : Int)) := hkx.cell 1
    obtain ⟨q, hq⟩ : ∃ q, x2 + 1 - m = q := ⟨_, rfl⟩
    rw [hq] at hal
    have bx1 : (x1 : Int) ≤ 3000 := by omega
    have bx2 : (x2 : Int) ≤ 3000 := by omega
    have hPb : P + 3001 ≤ 9000000 := by omega
    have HX := Lib.hid (And.intro hal (And.intro hze (And.intro hln (And.intro hnx (And.intro hx1 (And.intro hx2 hP))))))
    have HV := Lib.hid (And.intro hv (And.intro hrow (And.intro hsz2 (And.intro hB hkx))))
    clear hal hze hln hnx hx1 hx2 hP hv hrow hsz2 hB hkx hr hlt hpl
    rcases Nat.lt_or_ge x2 m with hlm | hge
    · have h0 : (x2 : Int) - (m : Int) + 1 ≤ 0 := by omega
      have hq0 : q = 0 := by omega
      subst hq0
      clear hq
      gi_wp2
      gi_loopw [25] (fun s25 wr => s25 = .int .i64 0 ∧ W = wr) (fun _ _ => 0)
      case atStart => exact ⟨rfl, rfl⟩
      case round =>
        obtain ⟨rfl, rfl⟩ := hrel
        gi_wp2
        obtain ⟨hv, hrow, hsz2, hB, hkx⟩ := HV.out
        have hal := HX.out.1
        rw [HX.out.2.1] at hal
        refine ⟨(KeepsOthers.refl _).from _, ⟨fun _ _ _ => rfl, by simpa using hsz2⟩, ⟨⟨_, hv, ?_, trivial⟩, hsz2⟩, hB⟩
        rw [← hal, HX.out.2.2.2.2.2.2]
        exact hrow
    · have hqi : (x2 : Int) - (m : Int) + 1 = (q : Int) := by omega
      have hq3 : q ≤ 3001 := by omega
      clear hq
      have HR0 : Hid (∃ (t : Nat) (V : World) (v' : Value), V = W ∧ t ≤ q ∧ (Value.int .i64 0) = .int .i64 (t : Int) ∧ Boxed V w2.heap.size 22 v' ∧ V.ownsRow (w2.heap.size + 2) 3 1 v' (P + t) (zs (stp m pre x t)) ∧ Below w2.heap.size w2 V ∧ w2.heap.size + 2 ≤ V.heap.size ∧ KeepsOthers W V ∧ Kq (w2.heap.size + 2) w2.heap.size W V ∧ Bk V Bx 69 #[.int .i64 (x1 : Int), .int .i64 (x2 : Int)]) := by
        obtain ⟨hv, hrow, hsz2, hB, hkx⟩ := HV.out
        exact ⟨0, _, v, rfl, Nat.zero_le _, rfl, hv, by rw [HX.out.2.1]; exact hrow, hB, hsz2, KeepsOthers.refl _, fun _ _ _ => rfl, hkx⟩
      gi_wp2
      gi_loopw [25] (fun s25 wr => ∃ (t : Nat) (V : World) (v' : Value), V = wr ∧ t ≤ q ∧ s25 = .int .i64 (t : Int) ∧ Boxed V w2.heap.size 22 v' ∧ V.ownsRow (w2.heap.size + 2) 3 1 v' (P + t) (zs (stp m pre x t)) ∧ Below w2.heap.size w2 V ∧ w2.heap.size + 2 ≤ V.heap.size ∧ KeepsOthers W V ∧ Kq (w2.heap.size + 2) w2.heap.size W V ∧ Bk V Bx 69 #[.int .i64 (x1 : Int), .int .i64 (x2 : Int)]) (fun s25 _ => q - (intOf s25).toNat)
      case atStart => exact HR0.out
      case round =>
        clear HR0 HV hcx hcy cm
        obtain ⟨t, wr, v', hwr, ht, rfl, hv, hrow, hB, hsz2, hko, hkq, hkx⟩ := hrel
        subst hwr
        rcases Nat.lt_or_ge t q with htl | htl
        · have hc := hv.cell
          have hcx : wr.cell? ⟨Bx, 0, none⟩ = some (.int .i64 (x1 : Int)) := hkx.cell 0
          have hbl := own_blk_ne hrow hkx (by decide)
          have hvl := hv.lt
          have tq : (t : Int) < (q : Int) := by omega
          have HV := Lib.hid (And.intro hv (And.intro hrow (And.intro hB (And.intro hsz2 (And.intro hko (And.intro hkq (And.intro hkx hbl)))))))
          clear hv hrow hB hsz2 hko hkq hkx hbl
          gi_wp2_with (gi_at_builtin; refine wpListIn_append_own _ rfl _ _ 22 rfl (w2.heap.size + 2) 3 i0 (.int .i64 0) 1 8 Tryz.underlying22 HI.out.1 HI.out.2.1 HI.out.2.2.1 HI.out.2.2.2 rfl (by decide) _ _ _ rfl (HV.out.2.1.alloc _) ⟨wr.heap.size, 0, none⟩ 1 1 [.int .i64 ((x1 : Int) + (t : Int))] rfl rfl (cell_one_new _ _ _) (by simp [Value.oneCell']) (by unfold maxLen; omega) (by omega) (by have := HV.out.2.2.2.1; simp; omega) ?_; intro v2 w1 hown' hgrow _; obtain ⟨g', cap', rfl⟩ := ownsRow_succ hown'; obtain ⟨hv1, hv2, hr2, hk2, hb2⟩ := HV.out.1.appended (by decide) (own_lo HV.out.2.1 (by omega)) HV.out.2.2.1.size (Nat.le_refl _) (own_lo hown' (by omega)) hgrow; have hc1 := hv1.cell; have hf1 := hv1.frozen; have HG := Lib.hid (And.intro hown' (And.intro hgrow (And.intro hv1 (And.intro hv2 (And.intro hk2 hb2))))); clear hown' hgrow hv1 hv2 hr2 hk2 hb2)
          go_roundw
          case rel =>
            obtain ⟨hv, hrow, hB, hsz2, hko, hkq, hkx, hbl⟩ := HV.out
            obtain ⟨hown', hgrow, hv1, hv2, hk2, hb2⟩ := HG.out
            have hne := hgrow.block
            have kc : ∀ b, b ≠ w2.heap.size → b < wr.heap.size → some b ≠ v'.ownBlock → (w1.setCell ⟨w2.heap.size, 0, none⟩ (.slice (some ⟨g', 0, none⟩) (P + t + 1) cap')).heap[b]? = wr.heap[b]? := fun b hb1 hb2 hb3 => by
              refine Eq.trans (Below.heap_setCell _ _ _ b hb1) ?_
              refine (hne b (by rw [World.size_alloc]; omega) hb3).trans ?_
              exact Below.heap_alloc _ _ _ hb2
            have hxl := hkx.lt
            refine ⟨t + 1, _, _, rfl, by omega, by go_num, hv2, ?_, hB.trans hb2, ?_, hko.trans hk2, fun b h1 h2 => (kc b h2 (by omega) (own_ne hrow h1)).trans (hkq b h1 h2), (kc Bx (by omega) hxl (fun e => hbl e.symm)).trans hkx⟩
            · rw [HX.out.2.2.2.1 t, zs_app]
              exact hown'.kept (grownBy_setCell' w1 _ _) (.inr (hv1.not_row (by decide) hown').symm)
            · have := hgrow.size
              simp [World.setCell] at *
              omega
          case measure => simp [intOf]; omega
        · obtain rfl : t = q := by omega
          have HV := Lib.hid (And.intro hv (And.intro hrow (And.intro hB (And.intro hsz2 (And.intro hko hkq)))))
          clear hv hrow hB hsz2 hko hkq hkx
          gi_wp2
          obtain ⟨hv, hrow, hB, hsz2, hko, hkq⟩ := HV.out
          refine ⟨hko.from _, ⟨by simpa using hkq, by simpa using hsz2⟩, ⟨⟨_, hv, ?_, trivial⟩, hsz2⟩, hB⟩
          have hln := HX.out.2.2.1 t
          rw [HX.out.1] at hrow hln
          rw [hln]
          exact hrow
  case done =>
    rintro D ys W hD hys ⟨⟨⟨v, hv, hrow, _⟩, hsz2⟩, hB⟩ hK
    have hc := hv.cell
    have hs := stl_sts (m := m) hys
    rw [hs, List.length_map] at hrow
    clear hs hys
    have HR := Lib.hid hrow
    have HB := Lib.hid hB
    clear hrow hB
    gi_wp2
    refine ⟨by simp, .inl ⟨_, _, rfl, run_takeDeferred hK, ?_⟩⟩
    exact ⟨_, results_tmp rfl _ _ _, _, rfl, own_lo (ownsRow_putObj HR.out _ hK rfl) (by omega), (hbw2.bl.trans (HB.out.mono (by omega))).trans (belowK_b (w := w) (Nat.le_refl _) W D _ _ (by simp at hD; omega) hK rfl rfl)⟩
  case stop =>
    rintro D c pre W _ _ h _
    exact h.elim
theorem starts_wc (st sp : Int) (A : Option Addr) (n c m : Nat) (L : List Int) (h : Sw st sp n) (hs : Sv L) (m1 : 1 ≤ m) (m2 : m ≤ 300) (w : World) (hz : Zi w A n L) :
    Calls Tryz.prog 10 #[.agg #[.int .i64 st, .int .i64 sp, .slice A n c], .int .i64 (m : Int)] w (SomeStarts L m w) := by
  refine (callsIn_wide.1 (starts_w st sp A n c m L h hs m1 m2 w hz)).mono ?_
  rintro e w' ⟨v, rfl, hr, hb⟩
  obtain ⟨A', c', rfl, hz', _⟩ := row_zi hr (by simp)
  exact ⟨A', _, c', rfl, rfl, hz', hb⟩
end Go.Proofs.YtnjojdmmalmhaaaGreatDoor.Gs
namespace Go.Proofs.YtnjojdmmalmhaaaGreatDoor.Gs
open Go.ChangeShapes Go.WideShapes Go.RowKit Wo Sr Wi Se Rm
open Rg (vals vz vals_at vals_len Gv)
set_option linter.unusedVariables false
def at' (f s : Int) (x : Nat) : Int := f + (x : Int) * s
theorem at_in {f s r q : Int} {N : Nat} (h : Gv f s (N : Int) r q) {x : Nat} (hx : x < N) : 0 ≤ at' f s x ∧ at' f s x ≤ 1099511627776 ∧ 0 ≤ (x : Int) * s ∧ (x : Int) * s ≤ 1099511627776 := by
  obtain ⟨f0, f1, s0, s1, c0, c1, h1, r0, r1, q0, q1⟩ := h
  have a := h1 (by omega)
  have b := Int.mul_le_mul_of_nonneg_right (show (x : Int) ≤ (N : Int) - 1 by omega) (show 0 ≤ s by omega)
  have c := Int.mul_nonneg (show 0 ≤ (x : Int) by omega) (show 0 ≤ s by omega)
  unfold at'
  omega
theorem vals_get {l : List Rp} {f s r q : Int} {N x : Nat} (hx : x < N) : (vals l f s r q N).getD x 0 = vz (val l r q (at' f s x)) := vals_at l f s r q N x hx
theorem vals_get2 {l : List Rp} {f s r q : Int} {N x : Nat} (hx : x < N) : (vals l f s r q N).getD x 1073741824 = vz (val l r q (at' f s x)) := by
  rw [← vals_get hx, List.getD_eq_getElem?_getD, List.getD_eq_getElem?_getD, List.getElem?_eq_getElem (by rw [vals_len]; exact hx)]; rfl
theorem vz_in {l : List Rp} (hl : Asc l) {f s r q : Int} {N : Nat} (h : Gv f s (N : Int) r q) {x : Nat} (hx : x < N) : (-1000 ≤ vz (val l r q (at' f s x)) ∧ vz (val l r q (at' f s x)) ≤ 1000 ∧ (val l r q (at' f s x)).2 = true) ∨ (vz (val l r q (at' f s x)) = 1073741824 ∧ (val l r q (at' f s x)).2 = false) := by
  have ht := at_in h hx
  rcases hb : (val l r q (at' f s x)).2
  · exact .inr ⟨by unfold vz; rw [hb, if_neg (by simp)], rfl⟩
  · have := val_in hl ht.1 ht.2.1 h.2.2.2.2.2.2.2.2.2.2 hb
    exact .inl ⟨by unfold vz; rw [hb, if_pos rfl]; exact this.1, by unfold vz; rw [hb, if_pos rfl]; exact this.2, rfl⟩
theorem sv_vals {l : List Rp} (hl : Asc l) {f s r q : Int} {N : Nat} (h : Gv f s (N : Int) r q) : Sv (vals l f s r q N) := by
  intro x hx
  obtain ⟨i, hi, e⟩ := List.mem_iff_getElem.1 hx
  have hN : i < N := by rwa [vals_len] at hi
  have g := vals_get (l := l) (f := f) (s := s) (r := r) (q := q) hN
  rw [List.getD_eq_getElem?_getD, List.getElem?_eq_getElem hi] at g
  have g' : (vals l f s r q N)[i] = vz (val l r q (at' f s i)) := g
  rw [← e, g']
  rcases vz_in hl h hN with h | h
  · exact .inl ⟨h.1, h.2.1⟩
  · exact .inr h.1
/-- a part is whole where all its places are there -/
theorem good_vals {l : List Rp} (hl : Asc l) {f s r q : Int} {N : Nat} (h : Gv f s (N : Int) r q) (k i : Nat) :
    good (vals l f s r q N) k i = true ↔ (i + k ≤ N ∧ ∀ j, j < k → (val l r q (at' f s (i + j))).2 = true) := by
  rw [good_iff, vals_len]
  constructor
  · rintro ⟨h1, h2⟩
    refine ⟨h1, fun j hj => ?_⟩
    have := h2 j hj
    rw [vals_get2 (by omega)] at this
    rcases vz_in hl h (x := i + j) (by omega) with h' | h'
    · exact h'.2.2
    · exact absurd h'.1 this
  · rintro ⟨h1, h2⟩
    refine ⟨h1, fun j hj => ?_⟩
    rw [vals_get2 (by omega)]
    rcases vz_in hl h (x := i + j) (by omega) with h' | h'
    · omega
    · rw [h2 j hj] at h'; exact absurd h'.2 (by simp)
theorem part_get {l : List Rp} {f s r q : Int} {N k i j : Nat} (h : i + k ≤ N) (hj : j < k) (hb : (val l r q (at' f s (i + j))).2 = true) : (((vals l f s r q N).drop i).take k).getD j 0 = (val l r q (at' f s (i + j))).1 := by
  have e : (((vals l f s r q N).drop i).take k).getD j 0 = (vals l f s r q N).getD (i + j) 0 := by
    simp only [List.getD_eq_getElem?_getD, List.getElem?_take, List.getElem?_drop, hj, if_true]
  rw [e, vals_get (by omega)]
  unfold vz
  rw [if_pos hb]
theorem wz_good {L : List Int} {i m : Nat} (h : good L m i = true) : wz L i m = (L.drop i).take m ∧ we L i m = 0 := by
  unfold wz we; rw [h]; exact ⟨rfl, rfl⟩
theorem stz_at' {L : List Int} {m j : Nat} (h : j < (sts L m).length) : (stz L m).getD j 0 = (((sts L m).getD j 0 : Nat) : Int) := by
  unfold stz
  simp only [List.getD_eq_getElem?_getD, List.getElem?_map, List.getElem?_eq_getElem h]; rfl
theorem sts_in' {L : List Int} {m : Nat} (hm : 1 ≤ m) (i : Nat) : good L m i = true ↔ ∃ j, j < (sts L m).length ∧ (stz L m).getD j 0 = (i : Int) := by
  rw [← sts_mem hm]
  constructor
  · intro h
    obtain ⟨j, hj, e⟩ := List.mem_iff_getElem.1 h
    refine ⟨j, hj, ?_⟩
    rw [stz_at' hj, List.getD_eq_getElem?_getD, List.getElem?_eq_getElem hj, Option.getD_some, e]
  · rintro ⟨j, hj, e⟩
    rw [stz_at' hj, List.getD_eq_getElem?_getD, List.getElem?_eq_getElem hj, Option.getD_some] at e
    have : (sts L m)[j] = i := by omega
    rw [← this]; exact List.getElem_mem hj
theorem sts_good {L : List Int} {m j : Nat} (hm : 1 ≤ m) (hj : j < (sts L m).length) : good L m ((sts L m).getD j 0) = true := by
  rw [← sts_mem hm, List.getD_eq_getElem?_getD, List.getElem?_eq_getElem hj]
  exact List.getElem_mem hj
end Go.Proofs.YtnjojdmmalmhaaaGreatDoor.Gs
