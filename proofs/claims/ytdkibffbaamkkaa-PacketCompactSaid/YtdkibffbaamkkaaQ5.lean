/- The reference of layer 6: Encode. -/
import Derived.Test.YtdkibffbaamkkaaQ4
import Derived.Deep.RegionHeld3
namespace Go.Proofs.Ytdkibffbaamkkaa.Pk
open Go.ChangeShapes Go.WideShapes Go.RowKit Wo Sr Wi Rm Rg Cd Cr By Bm
set_option linter.unusedVariables false
theorem rsample_ok (n : Int) (h0 : -1000 ≤ n) (h1 : n ≤ 1000) (w : World) : Calls Try.prog 60 #[.int .i64 n] w fun e w' => e = .returned (.bool true) ∧ Bel w w' := by
  go_enter Try.func60, Try.ntmps60
  go_wp2
  go_ret
  exact ⟨rfl, (by repeat (first | exact Bel.rf | (with_reducible refine Bel.drwN ?_ _) | (with_reducible refine Bel.drw ?_) | (with_reducible refine Bel.al ?_ _)))⟩
theorem rvalid_ok (t v : Int) (h : Vr t v) (w : World) : Calls Try.prog 50 #[.agg #[.int .i64 t, .int .i64 v]] w fun e w' => e = .returned (.bool true) ∧ Bel w w' := by
  obtain ⟨h1, h2, h3, h4⟩ := h
  go_enter Try.func50, Try.ntmps50
  go_wp2_with (go_at_call 60; refine (rsample_ok v h3 h4 _).mono ?_; rintro e w' ⟨rfl, hb⟩)
  go_ret
  exact ⟨rfl, Bel.tr (by repeat (first | exact Bel.rf | (with_reducible refine Bel.drwN ?_ _) | (with_reducible refine Bel.drw ?_) | (with_reducible refine Bel.al ?_ _))) hb⟩
set_option maxHeartbeats 4000000 in
theorem rcheck_ok (A : Option Addr) (c n : Nat) (l : List Rp) (hn : n ≤ 2000) (hs : Vrs l) (w : World) (h : Zr w A n l) :
    Calls Try.prog 36 #[.slice A n c] w fun e w' => e = .returned (.int .i64 0) ∧ Bel w w' := by
  have H1 := Lib.hid h
  have HS := Lib.hid hs
  have ni : ¬ 2000 < (n : Int) := by omega
  have nj : (n : Int) ≤ 2000 := by omega
  clear h hs
  go_enter Try.func36, Try.ntmps36
  go_wp2
  go_loopw [9] (fun s7 wr => ∃ (k : Nat) (V : World), V = wr ∧ k ≤ n ∧ s7 = .int .i64 (k : Int) ∧ Bel w wr) (fun s7 _ => n - (intOf s7).toNat)
  case atStart => exact ⟨0, _, rfl, by omega, rfl, by first | exact Bel.rf | exact Bel.rf.drwN _⟩
  case round =>
    obtain ⟨k, wr, hwr, hk, rfl, hb⟩ := hrel
    subst hwr
    have HB := Lib.hid hb
    rcases Nat.lt_or_ge k n with hlt | hge
    · obtain ⟨g, rfl, hab, hac⟩ := (H1.out.bel hb).2 (by omega)
      obtain ⟨c1, c2⟩ := hac k hlt
      have hx := HS.out k (by rw [H1.out.1]; exact hlt)
      obtain ⟨x, hxx⟩ : ∃ x, tm l k = x := ⟨_, rfl⟩
      obtain ⟨y, hyy⟩ : ∃ x, vl l k = x := ⟨_, rfl⟩
      rw [hxx] at c1 hx
      rw [hyy] at c2 hx
      have HX := Lib.hid hx
      have ki : (k : Int) < (n : Int) := by omega
      clear hb hac hab hx hxx hyy
      go_wp2_with (go_at_call 50; refine (rvalid_ok x y HX.out _).mono ?_; rintro e w4 ⟨rfl, hb4⟩)
      have HB4 : Hid (Bel w w4) := HB.out.tr (by first | exact hb4 | exact (Bel.rf.drwN _).tr hb4)
      clear hb4
      go_roundw
      case rel => exact ⟨k + 1, _, rfl, by omega, by go_num, by first | exact HB4.out | exact HB4.out.drwN _⟩
      case measure => simp [intOf]; omega
    · obtain rfl : k = n := by omega
      clear hb
      go_wp2
      go_ret
      exact ⟨rfl, HB.out⟩
theorem rput2 (A : Option Addr) (c lb : Nat) (B : List Nat) (n : Int) (hn : In64 n) (hlb : B.length = lb) (hB : lb ≤ 1000000) (hnc : A = none → c = 0) (m : Nat) (hm : (B ++ bytesOf n).length = m) (w : World) (hr : Rd w A lb B) :
    Calls Try.prog 37 #[.slice A lb c, .int .i64 n] w fun e w' => ∃ h c' : Nat, e = .returned (.slice (some ⟨h, 0, none⟩) m c') ∧ Rd w' (some ⟨h, 0, none⟩) m (B ++ bytesOf n) ∧ Bel w w' := by
  refine (rput_ok A c lb B n hn hlb hB hnc w hr).mono ?_
  rintro e w' ⟨u, rfl, ho, hb⟩
  have h1 := (bytesOf_len n).1
  have h2 : lb + (bytesOf n).length = m := by rw [← hm, List.length_append, hlb]
  rw [h2] at ho
  obtain ⟨h3, cap, rfl, _, _⟩ := ho.form (by omega)
  exact ⟨h3, cap, rfl, Rd.own ho (fun c hc => by rcases List.mem_append.1 hc with h | h; exact hr.2.1 c h; exact bytesOf_byte hn c h) hm, hb⟩
set_option maxHeartbeats 8000000 in
set_option maxRecDepth 100000 in
theorem rencode_ok (A : Option Addr) (ca n : Nat) (l : List Rp) (hn : n ≤ 2000) (hv : Vrs l) (w : World) (h : Zr w A n l) :
    Calls Try.prog 19 #[.slice A n ca] w fun e w' => ∃ u : Value, e = .returned (.tuple #[u, .int .i64 0]) ∧ w'.ownsRow w.heap.size 5 1 u (pck l).length (bys (pck l)) ∧ Bel w w' := by
  have HRD : Hid (∀ W, Bel w W → _) := fun W hW => rcheck_ok A ca n l hn hv W (h.bel hW)
  have HZ := Lib.hid h
  have HV := Lib.hid hv
  have HL := Lib.hid h.1
  have HVP := Lib.hid (vrs_vp hv)
  have ni : (n : Int) ≤ 2000 := by omega
  obtain ⟨K, hK⟩ : ∃ K, ([84, 83, 49] ++ bytesOf (n : Int)).length = K := ⟨_, rfl⟩
  have HP0 : Hid (∀ (g : Nat) W, Rd W (some ⟨g, 0, none⟩) 3 [84, 83, 49] → _) := fun g W hW => rput2 (some ⟨g, 0, none⟩) 3 3 [84, 83, 49] (n : Int) (by unfold In64; omega) rfl (by decide) (fun h => by cases h) K hK W hW
  have HKK := Lib.hid hK
  clear h hv hK
  go_enter Try.func19, Try.ntmps19
  go_wp2_with fail
  go_at_call 36
  refine (HRD.out _ (by first | exact Bel.rf | exact Bel.rf.drwN _)).mono ?_
  rintro e w1 ⟨rfl, hb1⟩
  have HB1 : Hid (Bel w w1) := by first | exact hb1 | exact (Bel.rf.drwN _).tr hb1
  clear hb1
  have hcv := Lib.run_convert_bytes_const (P := Try.prog) w1 23 5 #[.int .u8 84, .int .u8 83, .int .u8 49] 3 3 Try.underlying23 Try.underlying5
  obtain ⟨W1, hW1⟩ : ∃ W1, w1.alloc (.cells #[.int .u8 84, .int .u8 83, .int .u8 49] 5 ((#[.int .u8 84, .int .u8 83, .int .u8 49] : Array Value).size, (#[.int .u8 84, .int .u8 83, .int .u8 49] : Array Value).size + 1)) = W1 := ⟨_, rfl⟩
  rw [hW1] at hcv
  have HBW : Hid (Bel w1 W1) := (by rw [← hW1]; exact Bel.rf.al _)
  have HR1 : Hid (Rd W1 (some ⟨w1.heap.size, 0, none⟩) 3 [84, 83, 49]) := by
    rw [← hW1]
    refine ⟨rfl, by decide, fun _ => ⟨_, rfl, by simp, fun j hj => ?_⟩⟩
    rw [By.add_row, cell_of_row _ _ _ _ _ _ (heap_alloc_new w1 _)]
    rcases (show j = 0 ∨ j = 1 ∨ j = 2 by omega) with rfl | rfl | rfl <;> rfl
  clear hW1
  go_wp2_with fail
  go_at_call 37
  refine (HP0.out _ _ HR1.out).mono ?_
  rintro e w2 ⟨h2, c2, rfl, hr2, hb2⟩
  have HB2 : Hid (Bel w w2) := (HB1.out.tr HBW.out).tr (by first | exact hb2 | exact (Bel.rf.drwN _).tr hb2)
  have HR2 : Hid (Rd w2 (some ⟨h2, 0, none⟩) K (pre n l 0)) := by rw [pre_zero]; exact hr2
  clear hr2 hb2 hcv
  go_wp2
  go_loopw [5, 6, 7, 21] (fun s5 s6 s7 s21 wr => ∃ (i m h c : Nat) (V : World), V = wr ∧ i ≤ n ∧ s21 = .int .i64 (i : Int) ∧ s5 = .slice (some ⟨h, 0, none⟩) m c ∧ s6 = .int .i64 (la l i).1 ∧ s7 = .int .i64 (la l i).2 ∧ Rd wr (some ⟨h, 0, none⟩) m (pre n l i) ∧ Bel w wr) (fun _ _ _ s21 _ => n - (intOf s21).toNat)
  case atStart => exact ⟨0, K, h2, c2, _, rfl, by omega, rfl, rfl, rfl, rfl, HR2.out, HB2.out⟩
  case round =>
    clear HR2
    obtain ⟨i, m, h, c, wr, hwr, hi, rfl, rfl, rfl, rfl, hr, hb⟩ := hrel
    subst hwr
    have HR := Lib.hid hr
    have HB := Lib.hid hb
    have hm2 := (pre_facts HVP.out hn i hi).2
    rw [hr.1] at hm2
    rcases Nat.lt_or_ge i n with hlt | hge
    · have hzr := HZ.out.bel hb
      obtain ⟨g, rfl, hgl, hgc⟩ := hzr.2 (by omega)
      obtain ⟨ci, cv⟩ := hgc i hlt
      obtain ⟨y0, y1, x0, x1⟩ := HV.out i (by rw [HL.out]; exact hlt)
      obtain ⟨q0, q1, r0, r1⟩ := la_in HV.out (i := i) (by rw [HL.out]; omega)
      have hnx := pre_next n l i (by rw [HL.out]; exact hlt)
      have hla := la_next l i
      obtain ⟨y, hy⟩ : ∃ y, tm l i = y := ⟨_, rfl⟩
      obtain ⟨x, hx⟩ : ∃ y, vl l i = y := ⟨_, rfl⟩
      obtain ⟨q, hq⟩ : ∃ y, (la l i).1 = y := ⟨_, rfl⟩
      obtain ⟨r, hrr⟩ : ∃ y, (la l i).2 = y := ⟨_, rfl⟩
      rw [hy] at ci y0 y1 hnx hla
      rw [hx] at cv x0 x1 hnx hla
      rw [hq] at q0 q1 hnx ⊢
      rw [hrr] at r0 r1 hnx ⊢
      obtain ⟨D, hD⟩ : ∃ D, y - q = D := ⟨_, rfl⟩
      obtain ⟨E, hE⟩ : ∃ D, x - r = D := ⟨_, rfl⟩
      rw [hD, hE] at hnx
      have d0 : -1099511627776 ≤ D ∧ D ≤ 1099511627776 := by omega
      have e0 : -2000 ≤ E ∧ E ≤ 2000 := by omega
      obtain ⟨a, ha⟩ : ∃ a, (pre n l i ++ bytesOf D).length = a := ⟨_, rfl⟩
      obtain ⟨b, hbb⟩ : ∃ a, (pre n l i ++ bytesOf D ++ bytesOf E).length = a := ⟨_, rfl⟩
      have hal : a ≤ 100000 := by have := (bytesOf_len D).2; rw [← ha, List.length_append, hr.1]; omega
      have HPD : Hid (∀ W, Bel wr W → _) := fun W hW => rput2 (some ⟨h, 0, none⟩) c m (pre n l i) D (by unfold In64; omega) hr.1 (by omega) (fun h => by cases h) a ha W (HR.out.bel hW)
      have HPE : Hid (∀ (g c : Nat) W, Rd W (some ⟨g, 0, none⟩) a (pre n l i ++ bytesOf D) → _) := fun g c W hW => rput2 (some ⟨g, 0, none⟩) c a (pre n l i ++ bytesOf D) E (by unfold In64; omega) ha (by omega) (fun h => by cases h) b hbb W hW
      have HNX := Lib.hid hnx
      have HLA := Lib.hid hla
      have wD : wrap64 D = D := IntWalk.wrap64_in _ (by omega)
      have wE : wrap64 E = E := IntWalk.wrap64_in _ (by omega)
      have wD2 : IntKind.i64.wrap D = D := IntWalk.i64_in _ (by omega)
      have wE2 : IntKind.i64.wrap E = E := IntWalk.i64_in _ (by omega)
      have ii : (i : Int) < (n : Int) := by omega
      have jj : (0 : Int) ≤ (i : Int) := by omega
      clear hgl hgc hnx hla hy hx hq hrr ha hbb hr hb hzr
      go_wp2_with fail
      go_region_held3 (fun w' => w'.cell? ⟨g, i * 2, none⟩ = some (.int .i64 y) ∧ w'.cell? ⟨g, i * 2 + 1, none⟩ = some (.int .i64 x))
        ((refine ⟨?_, ?_⟩) <;> (repeat (first | exact ci | exact cv | (with_reducible refine kp_drwN ?_ _) | (with_reducible refine kp_drw ?_) | (refine Bel.kp (by assumption) ?_) | (refine Bel.kp HW4.out ?_) | (refine Bel.kp HW6.out ?_))))
        (first
          | (go_at_call 37; have TE := HPE.out h4 c4 w4 HR4.out; (with_reducible refine TE.mono ?_); clear TE; rintro e w6 ⟨h6, c6, rfl, hr6, hb6⟩; have HR6 := Lib.hid hr6; have HW6 : Hid (Bel w4 w6) := (by first | exact hb6 | exact Bel.rf.drw.tr hb6 | exact (Bel.rf.drwN _).tr hb6); clear hr6 hb6)
          | (go_at_call 37; (with_reducible refine (HPD.out _ (by repeat (first | exact Bel.rf | (with_reducible refine Bel.drwN ?_ _) | (with_reducible refine Bel.drw ?_)))).mono ?_); rintro e w4 ⟨h4, c4, rfl, hr4, hb4⟩; have HR4 := Lib.hid hr4; have HW4 : Hid (Bel wr w4) := (by first | exact hb4 | exact Bel.rf.drw.tr hb4 | exact (Bel.rf.drwN _).tr hb4); clear hr4 hb4))
      all_goals
        have n0 := HW6.out.kp (HW4.out.kp ci)
        have n1 := HW6.out.kp (HW4.out.kp cv)
        have HBX : Hid (Bel w w6) := HB.out.tr (HW4.out.tr HW6.out)
        clear ci cv
        go_wp2
        go_quiet (fail)
        go_wp2
        go_roundw
        case rel => exact ⟨i + 1, b, h6, c6, _, rfl, by omega, by go_num, rfl, by rw [HLA.out], by rw [HLA.out], by rw [HNX.out]; first | exact HR6.out.bel Bel.rf.drw | exact HR6.out.bel (Bel.rf.drwN _) | exact HR6.out.bel ((Bel.rf.drwN _).drwN _) | exact HR6.out, by first | exact HBX.out.drw | exact HBX.out.drwN _ | exact (HBX.out.drwN _).drwN _ | exact HBX.out⟩
        case measure => simp [intOf]; omega
    · obtain rfl : i = n := by omega
      have hal := pre_all i l HL.out
      rw [hal] at hr
      have hlm := hr.1
      have HSE : Hid (∀ W, Bel wr W → _) := fun W hW => rsealed_ok (some ⟨h, 0, none⟩) c m (body l) hlm (by omega) (fun h => by cases h) W (hr.bel hW)
      have HLM : Hid (m + 4 = (pck l).length) := (by unfold pck; rw [List.length_append, hlm]; rfl)
      clear hr hb hal hlm HR
      go_wp2_with fail
      go_at_call 38
      refine (HSE.out _ (by first | exact Bel.rf | exact Bel.rf.drwN _)).mono ?_
      rintro e w4 ⟨u, rfl, ho4, hb4⟩
      have HW4 : Hid (Bel wr w4) := by first | exact hb4 | exact (Bel.rf.drwN _).tr hb4
      have HO4 : Hid (w4.ownsRow w.heap.size 5 1 u (pck l).length (bys (pck l))) := (by rw [← HLM.out]; exact own_base ho4 HB.out.size)
      clear ho4 hb4
      go_wp2
      go_ret2
      exact ⟨_, rfl, HO4.out, HB.out.tr HW4.out⟩
end Go.Proofs.Ytdkibffbaamkkaa.Pk
