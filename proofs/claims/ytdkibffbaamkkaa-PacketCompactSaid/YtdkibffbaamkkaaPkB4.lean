/- The contract of packet.decodeBody. -/
import Derived.Test.YtdkibffbaamkkaaPkB3
namespace Go.Proofs.Ytdkibffbaamkkaa.Pk
open Go.ChangeShapes Go.WideShapes Go.RowKit Wo Sr Wi Rm Rg Cd Cr By
set_option linter.unusedVariables false
/-- the readings of a body, or an error -/
def SomeDec (L : List Nat) (w : World) (e : Ending) (w' : World) : Prop := ∃ (u : Value) (er : Int), e = .returned (.tuple #[u, .int .i64 er]) ∧ Bel w w' ∧ (er ≠ 0 → u = .slice none 0 0) ∧ (Says L → er = 0) ∧
  (er = 0 → ∃ (k : Nat) (l : List Rp), w'.ownsRow w.heap.size 40 2 u k (rs l) ∧ l.length = k ∧ k ≤ 2000 ∧ Vrs l ∧ L.drop 3 = bytesOf (k : Int) ++ pk l 0 0)
theorem some_err (L : List Nat) (w w' : World) (er : Int) (h : er ≠ 0) (hs : Says L → er = 0) (hb : Bel w w') : SomeDec L w (.returned (.tuple #[.slice none 0 0, .int .i64 er])) w' :=
  ⟨_, er, rfl, hb, fun _ => rfl, hs, fun h2 => absurd h2 h⟩
theorem own_far2 {w : World} {base n p : Nat} {v : Value} {xs : List Value} (h : w.ownsRow base 40 2 v n xs) (hp : v.ownBlock ≠ some p) (k : Nat) (u : Value) : (w.setCell ⟨p, k, none⟩ u).ownsRow base 40 2 v n xs := by
  refine ⟨h.1, ?_⟩
  rcases h.2 with hn | ⟨g, cap, cur, rfl, hb, hg, rest⟩
  · exact .inl hn
  · exact .inr ⟨g, cap, cur, rfl, hb, (Below.heap_setCell w ⟨p, k, none⟩ u g (fun e => hp (by have e2 : g = p := e; rw [← e2]; rfl))).trans hg, rest⟩
def DI (L : List Nat) (K m : Nat) (w : World) (s5 s7 s25 : Value) (wr : World) : Prop := ∃ (l : List Rp) (i j : Nat) (V : World) (u : Value), V = wr ∧ u = s7 ∧ i ≤ K ∧ s25 = .int .i64 (i : Int) ∧ s5 = .int .i64 (j : Int) ∧ j ≤ m ∧ l.length = i ∧ Vrs l ∧
  wr.ownsRow w.heap.size 40 2 s7 i (rs l) ∧ s7.ownBlock ≠ some w.heap.size ∧ Bk wr w.heap.size 40 #[.int .i64 (la l i).1, .int .i64 (la l i).2] ∧ Bel w wr ∧ L.drop 3 = bytesOf (K : Int) ++ (pk l 0 0 ++ L.drop j)
theorem la_ok {l : List Rp} (h : Vrs l) : 0 ≤ (la l l.length).1 ∧ (la l l.length).1 ≤ 1099511627776 ∧ -1000 ≤ (la l l.length).2 ∧ (la l l.length).2 ≤ 1000 := la_in h (Nat.le_refl _)
set_option maxHeartbeats 8000000 in
set_option maxRecDepth 100000 in
theorem dbody_ok (A : Option Addr) (ca m : Nat) (L : List Nat) (hm : m ≤ 1000000) (hm3 : 3 ≤ m) (w : World) (hr : Rd w A m L) :
    Calls Try.prog 35 #[.slice A m ca] w (SomeDec L w) := by
  obtain ⟨d0, hd0⟩ : ∃ d, dec L 3 = d := ⟨_, rfl⟩
  have HI0 : Hid (∀ W, Bel w W → _) := fun W hW => int_as A ca L m 3 hr.1 d0 hd0 hm3 (by omega) W (hr.bel hW)
  obtain ⟨n0, k0, e0⟩ := d0
  simp only [] at HI0
  rcases Classical.em (e0 = 0) with h0 | h0
  · subst h0
    obtain ⟨hn0, j0, rfl, hj0, hl0, hdr0⟩ := dec_canon hr.2.1 (by rw [hr.1]; exact hm3) hd0
    rw [hr.1] at hl0
    rcases (show n0 < 0 ∨ 2000 < n0 ∨ (0 ≤ n0 ∧ n0 ≤ 2000) by omega) with hc | hc | ⟨hc, hc2⟩
    · have HSA : Hid (Says L → (4 : Int) = 0) := fun h => by have := says_count h hn0 hdr0; omega
      clear hr hd0 hdr0 hn0
      go_enter Try.func35, Try.ntmps35
      go_wp2_with fail
      go_at_call 48
      refine (HI0.out _ (by repeat (first | exact Bel.rf | (with_reducible refine Bel.drwN ?_ _) | (with_reducible refine Bel.drw ?_) | (with_reducible refine Bel.al ?_ _)))).mono ?_
      rintro e w1 ⟨rfl, rfl⟩
      go_wp2
      go_ret2
      exact some_err L _ _ 4 (by decide) HSA.out (by repeat (first | exact Bel.rf | (with_reducible refine Bel.drwN ?_ _) | (with_reducible refine Bel.drw ?_) | (with_reducible refine Bel.al ?_ _)))
    · have HSA : Hid (Says L → (4 : Int) = 0) := fun h => by have := says_count h hn0 hdr0; omega
      have q1 : ¬ n0 < 0 := by omega
      clear hr hd0 hdr0 hn0
      go_enter Try.func35, Try.ntmps35
      go_wp2_with fail
      go_at_call 48
      refine (HI0.out _ (by repeat (first | exact Bel.rf | (with_reducible refine Bel.drwN ?_ _) | (with_reducible refine Bel.drw ?_) | (with_reducible refine Bel.al ?_ _)))).mono ?_
      rintro e w1 ⟨rfl, rfl⟩
      go_wp2
      go_ret2
      exact some_err L _ _ 4 (by decide) HSA.out (by repeat (first | exact Bel.rf | (with_reducible refine Bel.drwN ?_ _) | (with_reducible refine Bel.drw ?_) | (with_reducible refine Bel.al ?_ _)))
    · obtain ⟨K, rfl⟩ := Int.eq_ofNat_of_zero_le hc
      have q1 : ¬ (K : Int) < 0 := by omega
      have q2 : ¬ 2000 < (K : Int) := by omega
      have HR := Lib.hid hr
      have HD0 := Lib.hid hdr0
      clear hr hd0 hdr0 hn0
      go_enter Try.func35, Try.ntmps35
      go_wp2_with fail
      go_at_call 48
      refine (HI0.out _ (by repeat (first | exact Bel.rf | (with_reducible refine Bel.drwN ?_ _) | (with_reducible refine Bel.drw ?_) | (with_reducible refine Bel.al ?_ _)))).mono ?_
      rintro e w1 ⟨rfl, rfl⟩
      go_wp2
      go_loopw [5, 7, 25] (fun s5 s7 s25 wr => DI L K m w s5 s7 s25 wr) (fun _ _ s25 _ => K - (intOf s25).toNat)
      case atStart => exact ⟨[], 0, j0, _, _, rfl, rfl, by omega, rfl, rfl, by omega, rfl, (fun i hi => by simp at hi), World.ownsRow_nil _ _ _ _, (fun e => by cases e), by first | exact Bk.nw _ _ _ | exact (Bk.nw _ _ _).drwN _, (by repeat (first | exact Bel.rf | (with_reducible refine Bel.drwN ?_ _) | (with_reducible refine Bel.drw ?_) | (with_reducible refine Bel.al ?_ _))), by simpa [pk] using HD0.out⟩
      case round =>
        clear HD0 HI0
        obtain ⟨l, i, j, wr, u, hwr, hu, hi, rfl, rfl, hj, hl, hv, ho, hne, hk, hb, hd⟩ := hrel
        subst hwr hu
        have HO := Lib.hid ho
        have HNE := Lib.hid hne
        have HK := Lib.hid hk
        have HB := Lib.hid hb
        have HD := Lib.hid hd
        have HV := Lib.hid hv
        have HL := Lib.hid hl
        rcases Nat.lt_or_ge i K with hlt | hge
        · have hla := la_ok hv
          rw [hl] at hla
          obtain ⟨t, ht⟩ : ∃ t, (la l i).1 = t := ⟨_, rfl⟩
          obtain ⟨v, hvv⟩ : ∃ t, (la l i).2 = t := ⟨_, rfl⟩
          rw [ht, hvv] at hla hk
          obtain ⟨t0, t1, v0, v1⟩ := hla
          have HRG : Hid (∀ W, Bel w W → _) := fun W hW => rdg_ok A ca m j L t v hm hj t0 t1 v0 v1 W (HR.out.bel hW)
          have HMO : Hid (Says L → ∃ T V R', Vr T V ∧ L.drop j = bytesOf (T - t) ++ (bytesOf (V - v) ++ R')) := fun h => by
            have := says_more h (by omega) hv (by omega) hd
            rwa [hl, ht, hvv] at this
          have hpm := pk_more l
          rw [hl, ht, hvv] at hpm
          have HPM := Lib.hid hpm
          have k0 := hk.cell 0
          have k1 := hk.cell 1
          have hlk := hk.lt
          have ii : (i : Int) < (K : Int) := by omega
          simp only [List.getElem?_toArray, List.getElem?_cons_zero, List.getElem?_cons_succ] at k0 k1
          clear ho hne hk hb hd hv hl ht hvv hpm
          go_wp2_with fail
          go_at_call 49
          refine (HRG.out _ (by first | exact HB.out | exact HB.out.drwN _)).mono ?_
          rintro e w4 ⟨T, V, k, er, rfl, hb4, hok, hno⟩
          have HW4 : Hid (Bel wr w4) := by first | exact hb4 | exact (Bel.rf.drwN _).tr hb4
          have HK4 := Lib.hid (HK.out.bel HW4.out)
          have HO4 := Lib.hid (own_bel HO.out HW4.out)
          have f0 := HK4.out.fr 0
          have f1 := HK4.out.fr 1
          have g0 := HK4.out.cell 0
          have g1 := HK4.out.cell 1
          simp only [List.getElem?_toArray, List.getElem?_cons_zero, List.getElem?_cons_succ] at g0 g1
          have hwz : w.heap.size < w4.heap.size := HK4.out.lt
          have HNO := Lib.hid hno
          clear k0 k1 hb4 hno hlk
          rcases Classical.em (er = 0) with her | her
          · subst her
            obtain ⟨hvr, j', rfl, hj', hl', hdr⟩ := hok rfl
            have HVR := Lib.hid hvr
            have HDR := Lib.hid hdr
            clear hok hvr hdr
            have HOS : Hid (((w4.setCell ⟨w.heap.size, 0, none⟩ (.int .i64 T)).setCell ⟨w.heap.size, 1, none⟩ (.int .i64 V)).ownsRow w.heap.size 40 2 u i (rs l)) := own_far2 (own_far2 HO4.out HNE.out 0 _) HNE.out 1 _
            have HKS : Hid (Bk ((w4.setCell ⟨w.heap.size, 0, none⟩ (.int .i64 T)).setCell ⟨w.heap.size, 1, none⟩ (.int .i64 V)) w.heap.size 40 #[.int .i64 T, .int .i64 V]) := (HK4.out.st 0 _).st 1 _
            have HBS : Hid (Bel w ((w4.setCell ⟨w.heap.size, 0, none⟩ (.int .i64 T)).setCell ⟨w.heap.size, 1, none⟩ (.int .i64 V))) := ((HB.out.tr HW4.out).st (Nat.le_refl _) _).st (Nat.le_refl _) _
            go_upto_region 14 with (at_builtin; refine list_appr _ rfl (.tmp 38) (.tmp 40) rfl w.heap.size u i l rfl (own_bel HOS.out (Bel.rf.al _)) _ 1 (T, V) rfl (Bk.nq _ _ _ (by simp [World.setCell])) (by omega) (HBS.out.al _).size ?_; intro v' w9 h9 hg9 hat9
                                    have HO9 := Lib.hid h9
                                    have HB9 : Hid (Bel w w9) := Below.grown (HBS.out.al _).bl hg9 (HBS.out.al _).size (fun b e => (HO.out.lt b e).1)
                                    have HK9 : Hid (Bk w9 w.heap.size 40 #[.int .i64 T, .int .i64 V]) := bk_gr (HKS.out.al _) hg9 HNE.out
                                    have HN9 : Hid (v'.ownBlock ≠ some w.heap.size) := (fun e => by rcases hat9 with h | h; exact HNE.out (h.symm.trans e); (rw [e] at h; injection h with h; simp [World.setCell] at h; omega))
                                    clear h9 hg9 hat9)
            clear f0 f1 g0 g1 HOS HKS HBS HK4 HO4
            go_wp2
            go_roundw
            case rel => exact ⟨l ++ [(T, V)], i + 1, j', _, _, rfl, rfl, by omega, by go_num, rfl, hl', by simp [HL.out], vrs_snoc2 HV.out T V HVR.out, HO9.out, HN9.out, (by have e9 := la_snoc l (T, V); rw [List.length_append, HL.out] at e9; have e8 : la (l ++ [(T, V)]) (i + 1) = (T, V) := e9; rw [e8]; exact HK9.out), HB9.out, by rw [HPM.out, HD.out, HDR.out]; simp [List.append_assoc]⟩
            case measure => simp [intOf]; omega
          · have hq : (er != 0) = true := by simpa using her
            have HSA : Hid (Says L → er = 0) := fun h => by
              obtain ⟨T', V', R', hv', hR'⟩ := HMO.out h
              exact HNO.out T' V' R' hv' hR'
            have HER := Lib.hid her
            have HBS : Hid (Bel w ((w4.setCell ⟨w.heap.size, 0, none⟩ (.int .i64 T)).setCell ⟨w.heap.size, 1, none⟩ (.int .i64 V))) := ((HB.out.tr HW4.out).st (Nat.le_refl _) _).st (Nat.le_refl _) _
            clear hok her
            go_wp2
            go_ret2
            exact some_err L _ _ er HER.out HSA.out HBS.out
        · obtain rfl : i = K := by omega
          rcases Nat.lt_or_ge j m with hjm | hjm
          · have HSA : Hid (Says L → (3 : Int) = 0) := fun h => by
              have h9 := says_end h (by omega) hv hl hd
              have h8 := congrArg List.length h9
              rw [List.length_drop, HR.out.1] at h8
              simp at h8
              omega
            have ji : (j : Int) < (m : Int) := by omega
            clear ho hne hk hb hd hv
            go_wp2
            go_ret2
            exact some_err L _ _ 3 (by decide) HSA.out HB.out
          · obtain rfl : j = m := by omega
            have ji : ¬ (j : Int) < (j : Int) := by omega
            have e9 : L.drop j = [] := List.drop_eq_nil_of_le (by rw [HR.out.1]; exact Nat.le_refl _)
            rw [e9, List.append_nil] at hd
            have HDD := Lib.hid hd
            clear ho hne hk hb hd hv e9
            go_wp2
            go_ret2
            exact ⟨_, 0, rfl, HB.out, (fun h => absurd rfl h), fun _ => rfl, fun _ => ⟨i, l, HO.out, HL.out, by omega, HV.out, HDD.out⟩⟩
  · have hq : (e0 != 0) = true := by simpa using h0
    have HSA : Hid (Says L → e0 = 0) := fun h => by
      obtain ⟨l, hv, hl, hd⟩ := h
      have h9 := dec_bytes (by omega) (by omega) hd
      rw [hd0] at h9
      injection h9 with _ h9
      injection h9
    have HER := Lib.hid h0
    clear hr hd0 h0
    go_enter Try.func35, Try.ntmps35
    go_wp2_with fail
    go_at_call 48
    refine (HI0.out _ (by repeat (first | exact Bel.rf | (with_reducible refine Bel.drwN ?_ _) | (with_reducible refine Bel.drw ?_) | (with_reducible refine Bel.al ?_ _)))).mono ?_
    rintro e w1 ⟨rfl, rfl⟩
    go_wp2
    go_ret2
    exact some_err L _ _ e0 HER.out HSA.out (by repeat (first | exact Bel.rf | (with_reducible refine Bel.drwN ?_ _) | (with_reducible refine Bel.drw ?_) | (with_reducible refine Bel.al ?_ _)))
end Go.Proofs.Ytdkibffbaamkkaa.Pk
