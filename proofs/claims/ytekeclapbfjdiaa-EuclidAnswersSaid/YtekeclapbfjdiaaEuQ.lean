/- ref12.Search of any lists; euclid's and the reference's Profile of lists that are refused. -/
import Derived.Test.YtekeclapbfjdiaaEuP
namespace Go.Proofs.Ytekeclapbfjdiaa.Say
open Go.ChangeShapes Go.WideShapes Go.RowKit Wo Sr Wi Ra Eu R12
set_option linter.unusedVariables false
set_option maxHeartbeats 4000000 in
theorem rsearch_any (A A' : Option Addr) (c n c' T : Nat) (Q Z : List Int) (hn : n ≤ 100000000) (hT : T ≤ 2000) (w : World) (h1 : Zi w A n Q) (h2 : Zi w A' T Z) :
    Calls Try.prog 47 #[.slice A n c, .slice A' T c'] w fun e w' => e = .returned (.int .i64 (pe n Q Z)) ∧ Bel w w' := by
  have HW := Lib.hid (rwindow_any A c n Q hn w h1)
  have HS : Hid (∀ W, Bel w W → _) := fun W hW => rsamples_any A' c' T Z (by omega) W (h2.bel hW)
  have tb : ¬ 2000 < (T : Int) := by omega
  have tb2 : decide (2000 < (T : Int)) = false := decide_eq_false tb
  rcases Classical.em (one n Q = 0) with hq | hq
  · have hE : pe n Q Z = (if allS Z = true then 0 else 12) := by unfold pe; rw [if_pos hq]
    rw [hE]
    rw [hq] at HW
    obtain ⟨E, hE2⟩ : ∃ E : Int, (if allS Z = true then (0 : Int) else 12) = E := ⟨_, rfl⟩
    rw [hE2] at HS ⊢
    clear h1 h2 hE hE2 hq
    go_enter Try.func47, Try.ntmps47
    go_wp2_with fail
    go_at_call 50
    refine HW.out.mono ?_
    rintro e w1 ⟨rfl, hb1⟩
    go_wp2_with fail
    go_at_call 60
    refine (HS.out _ hb1).mono ?_
    rintro e w2 ⟨rfl, hb2⟩
    go_wp2
    go_ret
    exact ⟨rfl, hb1.tr hb2⟩
  · have hE : pe n Q Z = one n Q := by unfold pe; rw [if_neg hq]
    rw [hE]
    obtain ⟨E, hE2⟩ : ∃ E : Int, one n Q = E := ⟨_, rfl⟩
    rw [hE2] at HW hq ⊢
    have e0 : (E == 0) = false := by rw [beq_eq_false_iff_ne]; exact hq
    clear h1 h2 hE hE2 HS
    go_enter Try.func47, Try.ntmps47
    go_wp2_with fail
    go_at_call 50
    refine HW.out.mono ?_
    rintro e w1 ⟨rfl, hb1⟩
    go_wp2
    go_ret
    exact ⟨rfl, hb1⟩
set_option maxHeartbeats 4000000 in
theorem prof_bad (A A' : Option Addr) (c n c' T : Nat) (Q Z : List Int) (E : Int) (hE : pe n Q Z = E) (h0 : E ≠ 0) (hn : n ≤ 100000000) (hT : T ≤ 2000) (w : World) (h1 : Zi w A n Q) (h2 : Zi w A' T Z) :
    Calls Try.prog 17 #[.slice A n c, .slice A' T c'] w (SomeProf E 0 [] w) := by
  have HW := Lib.hid (window_any A c n Q hn w h1)
  have HS : Hid (∀ W, Bel w W → _) := fun W hW => samples_any A' c' T Z (by omega) W (h2.bel hW)
  have tb : ¬ 2000 < (T : Int) := by omega
  have tb2 : decide (2000 < (T : Int)) = false := decide_eq_false tb
  rcases Classical.em (one n Q = 0) with hq | hq
  · have hE2 : allS Z = false ∧ E = 12 := by
      unfold pe at hE
      rw [if_pos hq] at hE
      split at hE
      · exact absurd hE.symm h0
      · rename_i h; exact ⟨Bool.eq_false_iff.2 h, hE.symm⟩
    obtain ⟨hz, rfl⟩ := hE2
    rw [hq] at HW
    rw [hz] at HS
    clear h1 h2 hE hq hz
    go_enter Try.func17, Try.ntmps17
    go_wp2_with fail
    go_at_call 45
    refine HW.out.mono ?_
    rintro e w1 ⟨rfl, hb1⟩
    go_wp2_with fail
    go_at_call 46
    refine (HS.out _ hb1).mono ?_
    rintro e w2 ⟨rfl, hb2⟩
    go_wp2
    go_ret2
    exact ⟨_, rfl, World.ownsRow_nil _ _ _ _, hb1.tr hb2⟩
  · have hE2 : one n Q = E := by unfold pe at hE; rwa [if_neg hq] at hE
    rw [hE2] at HW
    have e0 : (E == 0) = false := by rw [beq_eq_false_iff_ne]; exact h0
    clear h1 h2 hE hE2 hq HS
    go_enter Try.func17, Try.ntmps17
    go_wp2_with fail
    go_at_call 45
    refine HW.out.mono ?_
    rintro e w1 ⟨rfl, hb1⟩
    go_wp2
    go_ret2
    exact ⟨_, rfl, World.ownsRow_nil _ _ _ _, hb1⟩
set_option maxHeartbeats 4000000 in
theorem rprof_bad (A A' : Option Addr) (c n c' T : Nat) (Q Z : List Int) (E : Int) (hE : pe n Q Z = E) (h0 : E ≠ 0) (hn : n ≤ 100000000) (hT : T ≤ 2000) (w : World) (h1 : Zi w A n Q) (h2 : Zi w A' T Z) :
    Calls Try.prog 18 #[.slice A n c, .slice A' T c'] w (SomeProf E 0 [] w) := by
  have HW := Lib.hid (rsearch_any A A' c n c' T Q Z hn hT w h1 h2)
  rw [hE] at HW
  have e0 : (E == 0) = false := by rw [beq_eq_false_iff_ne]; exact h0
  clear hE h1 h2
  go_enter Try.func18, Try.ntmps18
  go_wp2_with fail
  go_at_call 47
  refine HW.out.mono ?_
  rintro e w1 ⟨rfl, hb1⟩
  go_wp2
  go_ret2
  exact ⟨_, rfl, World.ownsRow_nil _ _ _ _, hb1⟩
set_option maxHeartbeats 8000000 in
set_option maxRecDepth 100000 in
theorem rprof_good (A A' : Option Addr) (c n c' T N : Nat) (Q Z : List Int) (hq : one n Q = 0) (hT : T ≤ 2000) (hN : T + 1 - n = N) (hcap : T ≤ c') (ht : Sam Z) (w : World) (h1 : Zi w A n Q) (h2 : Zi w A' T Z) :
    Calls Try.prog 18 #[.slice A n c, .slice A' T c'] w (SomeProf 0 N (prof Q Z n N) w) := by
  have HW := Lib.hid (rsearch_any A A' c n c' T Q Z (by have := (one_yes hq).1.2; omega) hT w h1 h2)
  rw [show pe n Q Z = 0 by unfold pe; rw [if_pos hq, if_pos (sam_all ht)]] at HW
  obtain ⟨⟨n1, n2⟩, hs⟩ := one_yes hq
  have H1 := Lib.hid h1
  have H2 := Lib.hid h2
  have HS := Lib.hid hs
  have HT := Lib.hid ht
  have i1 : 2 ≤ (n : Int) := by omega
  have i2 : (n : Int) ≤ 32 := by omega
  have i3 : (T : Int) ≤ 2000 := by omega
  have i4 : (T : Int) ≤ (c' : Int) := by omega
  clear h1 h2 hs ht hq
  go_enter Try.func18, Try.ntmps18
  go_wp2_with fail
  go_at_call 47
  refine HW.out.mono ?_
  rintro e w2 ⟨rfl, hb2⟩
  have HB2 := Lib.hid hb2
  clear hb2
  go_wp2
  have HR0 : Hid (PI Q Z n N w2.heap.size w2 (.slice none 0 0) (.int .i64 0) w2) := ⟨0, _, _, rfl, rfl, by omega, rfl, World.ownsRow_nil _ _ _ _, Bel.rf, Nat.le_refl _⟩
  go_loopw [7, 8] (fun s7 s8 wr => PI Q Z n N w2.heap.size w2 s7 s8 wr) (fun _ s8 _ => N - (intOf s8).toNat)
  case atStart => exact HR0.out
  case round =>
    clear HR0
    obtain ⟨k, wr, u7, hwr, hu7, hk, rfl, hown, hb, hbase⟩ := hrel
    subst hwr hu7
    have HO := Lib.hid hown
    have HB := Lib.hid hb
    rcases Nat.lt_or_ge k N with hlt | hge
    · have hw : Bel w wr := HB2.out.tr hb
      obtain ⟨ad, rfl, _, _⟩ := H2.out.2 (by omega)
      have HSQ : Hid (∀ cc, _) := fun cc => (rdistance_ok A (some (ad.add k)) c cc n Q ((Z.drop k).take n) n1 n2 HS.out ((HT.out.drop k).take n) wr (H1.out.bel hw) (zi_gpart (H2.out.bel hw) k n (by omega)))
      obtain ⟨y, hy⟩ : ∃ y, su sq (df Q ((Z.drop k).take n)) = y := ⟨_, rfl⟩
      rw [hy] at HSQ
      have HY := Lib.hid hy
      have kb : (k : Int) + (n : Int) ≤ (T : Int) := by omega
      have kd : decide ((k : Int) + (n : Int) ≤ (T : Int)) = true := decide_eq_true kb
      have kc : (k : Int) + (n : Int) ≤ (c' : Int) := by omega
      clear hown hb hw hy
      go_wp2_with fail
      go_at_call 12
      refine (HSQ.out _).mono ?_
      rintro e w3 ⟨rfl, hb3⟩
      have hown1 := own_bel HO.out hb3
      have hsz := hb3.size
      have HOW := Lib.hid hown1
      have HB3 := Lib.hid hb3
      clear hown1 hb3
      go_wp2_with (at_builtin; refine list_app _ rfl _ _ rfl w2.heap.size u7 k (prof Q Z n k) rfl (HOW.out.alloc _) ⟨w3.heap.size, 0, none⟩ 1 1 [y] rfl (zi_bk (L := [y]) (t := 3) (Bk.nw _ _ _) 1 rfl) (by omega) (by simp; omega) ?_; intro v' w5 hown4 hgrow hat)
      have hstep := pi_step hlt HY.out HO.out HB.out hbase HB3.out hown4 hgrow
      have HST := Lib.hid hstep
      clear hstep hown4 hgrow hat
      go_wp2
      go_roundw
      case rel => exact HST.out
      case measure => simp [intOf]; omega
    · obtain rfl : k = N := by omega
      have kb : ¬ (k : Int) + (n : Int) ≤ (T : Int) := by omega
      have kd : decide ((k : Int) + (n : Int) ≤ (T : Int)) = false := decide_eq_false kb
      clear hown hb
      go_wp2
      go_ret2
      exact ⟨_, rfl, HO.out.mono HB2.out.size, HB2.out.tr HB.out⟩
/-- euclid.Profile and the reference's, of any lists -/
theorem both_prof (A A' : Option Addr) (c n c' T : Nat) (Q Z : List Int) (hn : n ≤ 100000000) (hT : T ≤ 2000) (hcap : T ≤ c') : ∃ (E : Int) (N : Nat) (L : List Int), L.length = N ∧ N ≤ 2001 ∧
    (∀ w, Zi w A n Q → Zi w A' T Z → Calls Try.prog 17 #[.slice A n c, .slice A' T c'] w (SomeProf E N L w)) ∧
    (∀ w, Zi w A n Q → Zi w A' T Z → Calls Try.prog 18 #[.slice A n c, .slice A' T c'] w (SomeProf E N L w)) := by
  rcases Classical.em (pe n Q Z = 0) with h | h
  · have hq : one n Q = 0 := by
      unfold pe at h
      split at h
      · rename_i h1; exact h1
      · exact h
    have hz : Sam Z := by
      unfold pe at h
      rw [if_pos hq] at h
      split at h
      · rename_i h1; exact all_sam h1
      · cases h
    exact ⟨0, T + 1 - n, prof Q Z n (T + 1 - n), prof_len _ _ _ _, by omega, fun w k1 k2 => prof_good A A' c n c' T _ Q Z hq hT rfl hcap hz w k1 k2, fun w k1 k2 => rprof_good A A' c n c' T _ Q Z hq hT rfl hcap hz w k1 k2⟩
  · exact ⟨_, 0, [], rfl, by omega, fun w k1 k2 => prof_bad A A' c n c' T Q Z _ rfl h hn hT w k1 k2, fun w k1 k2 => rprof_bad A A' c n c' T Q Z _ rfl h hn hT w k1 k2⟩
end Go.Proofs.Ytekeclapbfjdiaa.Say
