/- The contract of packet.Encode. -/
import Derived.Test.YtdkibffbaamkkaaPkS
import Derived.ArgAppend
import Derived.Lib.SlBytesConst
namespace Go.Proofs.Ytdkibffbaamkkaa.Pk
open Go.ChangeShapes Go.WideShapes Go.RowKit Wo Sr Wi Rm Rg Cd Cr By
set_option linter.unusedVariables false
theorem vrs_vp {l : List Rp} (h : Vrs l) : Vp l := fun p hp => by
  obtain ⟨i, hi, rfl⟩ := List.getElem_of_mem hp
  have := h i hi
  simpa [Vr, tm, vl, List.getD_eq_getElem?_getD, hi] using this
theorem put0 (n : Int) (h : In64 n) (k : Nat) (hk : (bytesOf n).length = k) (w : World) : Calls Try.prog 31 #[.slice none 0 0, .int .i64 n] w fun e w' => ∃ h : Nat, e = .returned (.slice (some ⟨h, 0, none⟩) k 10) ∧ w.heap.size ≤ h ∧ Rd w' (some ⟨h, 0, none⟩) k (bytesOf n) ∧ Bel w w' := by
  have := put_any none 0 [] n h.1 h.2 (by simp) w (Rd.nil w none)
  refine this.mono ?_
  rintro e w' ⟨g, rfl, ho, hb⟩
  simp only [List.length_nil, Nat.zero_add, List.nil_append, hk] at ho ⊢
  exact ⟨g, rfl, (ho.lt g rfl).1, Rd.own ho (bytesOf_byte h) hk, hb⟩
theorem own_ty {W : World} {B n p : Nat} {v : Value} {xs : List Value} {cs : Array Value} (h : W.ownsRow B 5 1 v n xs) (hk : Bk W p 40 cs) : v.ownBlock ≠ some p := fun e => by
  rcases h.2 with ⟨rfl, _⟩ | ⟨g, cap, cur, rfl, _, hg, _⟩
  · cases e
  · cases e
    rw [hk] at hg
    cases hg
theorem rd_bk {w : World} {h : Nat} {t : TypeId} {L : List Nat} (hb : Bk w h t (bys L).toArray) (hl : ∀ c ∈ L, c < 256) (n : Nat) (hn : L.length = n) : Rd w (some ⟨h, 0, none⟩) n L := by
  refine ⟨hn, hl, fun _ => ⟨_, rfl, hb.lt, fun j hj => ?_⟩⟩
  rw [By.add_row, hb.cell j]
  simpa using bys_at (L := L) (j := j) (by omega)
theorem own_base {w : World} {B C n : Nat} {e : TypeId} {v : Value} {xs : List Value} (h : w.ownsRow B e 1 v n xs) (hc : C ≤ B) : w.ownsRow C e 1 v n xs := by
  refine ⟨h.1, ?_⟩
  rcases h.2 with hn | ⟨g, cap, cur, rfl, hb, rest⟩
  · exact .inl hn
  · exact .inr ⟨g, cap, cur, rfl, by omega, rest⟩
theorem la_next (l : List Rp) (i : Nat) : la l (i + 1) = (tm l i, vl l i) := by simp [la]
theorem la_in {l : List Rp} (h : Vrs l) {i : Nat} (hi : i ≤ l.length) : 0 ≤ (la l i).1 ∧ (la l i).1 ≤ 1099511627776 ∧ -1000 ≤ (la l i).2 ∧ (la l i).2 ≤ 1000 := by
  unfold la
  split
  · decide
  · exact h (i - 1) (by omega)
theorem own_bel1 {w w' : World} {base n : Nat} {v : Value} {xs : List Value} (h : w.ownsRow base 5 1 v n xs) (hb : Bel w w') : w'.ownsRow base 5 1 v n xs := own_bel h hb
theorem own_far {w : World} {base n p : Nat} {v : Value} {xs : List Value} (h : w.ownsRow base 5 1 v n xs) (hp : v.ownBlock ≠ some p) (k : Nat) (u : Value) : (w.setCell ⟨p, k, none⟩ u).ownsRow base 5 1 v n xs := by
  refine ⟨h.1, ?_⟩
  rcases h.2 with hn | ⟨g, cap, cur, rfl, hb, hg, rest⟩
  · exact .inl hn
  · exact .inr ⟨g, cap, cur, rfl, hb, (Below.heap_setCell w ⟨p, k, none⟩ u g (fun e => hp (by have e2 : g = p := e; rw [← e2]; rfl))).trans hg, rest⟩
set_option maxHeartbeats 8000000 in
set_option maxRecDepth 100000 in
theorem enc_ok (A : Option Addr) (ca n : Nat) (l : List Rp) (hn : n ≤ 2000) (hv : Vrs l) (w : World) (h : Zr w A n l) :
    Calls Try.prog 15 #[.slice A n ca] w fun e w' => ∃ u : Value, e = .returned (.tuple #[u, .int .i64 0]) ∧ w'.ownsRow w.heap.size 5 1 u (pck l).length (bys (pck l)) ∧ Bel w w' := by
  obtain ⟨i0, hi0, hz0, hz1, hz2⟩ := info_parts info_u8
  have HI := Lib.hid (And.intro hi0 (And.intro hz0 (And.intro hz1 hz2)))
  have HRD : Hid (∀ W, Bel w W → _) := fun W hW => readings_ok A ca n l hn hv W (h.bel hW)
  have HZ := Lib.hid h
  have HV := Lib.hid hv
  have HL := Lib.hid h.1
  have HVP := Lib.hid (vrs_vp hv)
  have ni : (n : Int) ≤ 2000 := by omega
  obtain ⟨K, hK⟩ : ∃ K, (bytesOf (n : Int)).length = K := ⟨_, rfl⟩
  have hK2 := bytesOf_len (n : Int)
  have HP0 := Lib.hid (put0 (n : Int) (by unfold In64; omega) K hK)
  have HKK := Lib.hid hK
  clear hi0 hz0 hz1 hz2 h hv
  rw [hK] at hK2
  clear hK
  go_enter Try.func15, Try.ntmps15
  go_wp2_with fail
  go_at_call 30
  refine (HRD.out _ (by first | exact Bel.rf | exact Bel.rf.drwN _)).mono ?_
  rintro e w1 ⟨rfl, hb1⟩
  have HB1 : Hid (Bel w w1) := by first | exact hb1 | exact (Bel.rf.drwN _).tr hb1
  clear hb1
  have hcv := Lib.run_convert_bytes_const (P := Try.prog) w1 23 5 #[.int .u8 84, .int .u8 83, .int .u8 49] 3 3 Try.underlying23 Try.underlying5
  obtain ⟨W1, hW1⟩ : ∃ W1, w1.alloc (.cells #[.int .u8 84, .int .u8 83, .int .u8 49] 5 ((#[.int .u8 84, .int .u8 83, .int .u8 49] : Array Value).size, (#[.int .u8 84, .int .u8 83, .int .u8 49] : Array Value).size + 1)) = W1 := ⟨_, rfl⟩
  rw [hW1] at hcv
  have HBW : Hid (Bel w1 W1) := (by rw [← hW1]; exact Bel.rf.al _)
  have HOL : Hid (∀ (j : Nat) (u : Value), (bys [84, 83, 49])[j]? = some u → W1.cell? ⟨w1.heap.size, j, none⟩ = some u) := fun j u hj => by
    rw [← hW1, cell_of_row _ _ _ _ _ _ (heap_alloc_new w1 _)]
    simpa [bys] using hj
  clear hW1
  go_wp2_with fail
  go_at_call 31
  refine (HP0.out _).mono ?_
  rintro e w2 ⟨h2, rfl, hh2, hr2, hb2⟩
  have HW2 : Hid (Bel W1 w2) := by first | exact hb2 | exact (Bel.rf.drwN _).tr hb2
  have HB2 : Hid (Bel w w2) := (HB1.out.tr HBW.out).tr HW2.out
  have HR2 := Lib.hid hr2
  clear hr2 hb2 hh2 hcv
  go_wp2_with (at_builtin; refine wpList_append_grows _ rfl (.tmp 15) (.tmp 18) 23 rfl 5 i0 (.int .u8 0) 1 1 Try.underlying23 HI.out.1 HI.out.2.1 HI.out.2.2.1 HI.out.2.2.2 rfl (by decide) (some ⟨w1.heap.size, 0, none⟩) 3 3 (bys [84, 83, 49]) rfl (fun h => by cases h) rfl (fun b e j u hj => by cases e; rw [By.add_row]; exact HW2.out.kp (HOL.out j u hj)) ⟨h2, 0, none⟩ K 10 (bys (bytesOf (n : Int))) rfl (by rw [bys_len, HKK.out]; omega) HR2.out.src bys_one (by omega) (by unfold maxLen; omega) (by omega) ?_; intro u3 w3 ho3 hg3
               have HB3 : Hid (Bel w w3) := Below.grown HB2.out.bl hg3 HB2.out.size (fun b e => by cases e)
               have HO3 : Hid (w3.ownsRow w.heap.size 5 1 u3 (3 + K) (bys (pre n l 0))) := (by rw [pre_zero, bys_app]; exact own_base ho3 HB2.out.size)
               clear ho3 hg3)
  clear HR2
  go_loopw [5, 22] (fun s5 s22 wr => ∃ (i m : Nat) (V : World) (u : Value), V = wr ∧ u = s5 ∧ i ≤ n ∧ s22 = .int .i64 (i : Int) ∧ (pre n l i).length = m ∧ wr.ownsRow w.heap.size 5 1 s5 m (bys (pre n l i)) ∧ Bk wr w3.heap.size 40 #[.int .i64 (la l i).1, .int .i64 (la l i).2] ∧ Bel w wr) (fun _ s22 _ => n - (intOf s22).toNat)
  case atStart => exact ⟨0, 3 + K, _, _, rfl, rfl, by omega, rfl, by rw [pre_zero]; simp [HKK.out]; omega, own_bel1 HO3.out (by first | exact Bel.rf.al _ | exact (Bel.rf.al _).drwN _), by first | exact Bk.nw _ _ _ | exact (Bk.nw _ _ _).drwN _, HB3.out.tr (by first | exact Bel.rf.al _ | exact (Bel.rf.al _).drwN _)⟩
  case round =>
    clear HO3
    obtain ⟨i, m, wr, u, hwr, hu, hi, rfl, hm, ho, hk, hb⟩ := hrel
    subst hwr hu
    have HO := Lib.hid ho
    have HK := Lib.hid hk
    have HB := Lib.hid hb
    have HM := Lib.hid hm
    have hm2 := (pre_facts HVP.out hn i hi).2
    rw [hm] at hm2
    rcases Nat.lt_or_ge i n with hlt | hge
    · obtain ⟨g, rfl, hgl, hgc⟩ := (HZ.out.bel hb).2 (by omega)
      obtain ⟨ci, cv⟩ := hgc i hlt
      obtain ⟨y0, y1, x0, x1⟩ := HV.out i (by rw [HL.out]; exact hlt)
      obtain ⟨q0, q1, r0, r1⟩ := la_in HV.out (i := i) (by rw [HL.out]; omega)
      have hnx := pre_next n l i (by rw [HL.out]; exact hlt)
      have hla := la_next l i
      obtain ⟨y, hy⟩ : ∃ y, tm l i = y := ⟨_, rfl⟩
      obtain ⟨x, hx⟩ : ∃ y, vl l i = y := ⟨_, rfl⟩
      obtain ⟨q, hq⟩ : ∃ y, (la l i).1 = y := ⟨_, rfl⟩
      obtain ⟨r, hr⟩ : ∃ y, (la l i).2 = y := ⟨_, rfl⟩
      rw [hy] at ci y0 y1 hnx hla
      rw [hx] at cv x0 x1 hnx hla
      rw [hq] at q0 q1 hnx hk HK
      rw [hr] at r0 r1 hnx hk HK
      obtain ⟨D, hD⟩ : ∃ D, y - q = D := ⟨_, rfl⟩
      obtain ⟨E, hE⟩ : ∃ D, x - r = D := ⟨_, rfl⟩
      rw [hD, hE] at hnx
      have d0 : -1099511627776 ≤ D ∧ D ≤ 1099511627776 := by omega
      have e0 : -2000 ≤ E ∧ E ≤ 2000 := by omega
      obtain ⟨a, ha⟩ : ∃ a, (bytesOf D).length = a := ⟨_, rfl⟩
      obtain ⟨b, hbb⟩ : ∃ a, (bytesOf E).length = a := ⟨_, rfl⟩
      have ha2 := bytesOf_len D
      have hb2 := bytesOf_len E
      rw [ha] at ha2
      rw [hbb] at hb2
      have HPD := Lib.hid (put0 D (by unfold In64; omega) a ha)
      have HPE := Lib.hid (put0 E (by unfold In64; omega) b hbb)
      have HLEN : Hid ((pre n l (i + 1)).length = m + a + b) := by show _ = _; rw [hnx]; simp [HM.out, ha, hbb]; omega
      have HNX := Lib.hid hnx
      have HLA := Lib.hid hla
      have wD : wrap64 D = D := IntWalk.wrap64_in _ (by omega)
      have wE : wrap64 E = E := IntWalk.wrap64_in _ (by omega)
      have ii : (i : Int) < (n : Int) := by omega
      have k0 := hk.cell 0
      have k1 := hk.cell 1
      have hlk := hk.lt
      simp only [List.getElem?_toArray, List.getElem?_cons_zero, List.getElem?_cons_succ] at k0 k1
      clear hgl hgc hnx hla hy hx hq hr ha hbb ho hk hb hm
      go_wp2_with fail
      go_at_call 31
      refine (HPD.out _).mono ?_
      rintro e w4 ⟨h4, rfl, hh4, hr4, hb4⟩
      have hw4 : Bel wr w4 := Bel.tr (by repeat (first | exact Bel.rf | (with_reducible refine Bel.drwN ?_ _) | (with_reducible refine Bel.drw ?_) | (with_reducible refine Bel.al ?_ _) | (refine Bel.st2 ?_ ?_ _; (simp; done)))) hb4
      have K4 : Bk w4 wr.heap.size 40 #[.int .i64 y, .int .i64 x] := Bk.bel (by first | exact Bk.nw _ _ _ | exact (Bk.nw _ _ _).drwN _) hb4
      have HW4 := Lib.hid hw4
      have HK4 := Lib.hid K4
      have HR4 := Lib.hid hr4
      have HO4 := Lib.hid (own_bel1 HO.out hw4)
      clear hr4 hb4 hw4 K4 hh4 ci cv
      go_upto_region 10 with (at_builtin; refine wpList_append_rd rfl (.tmp 26) (.tmp 32) 23 rfl w.heap.size 5 i0 (.int .u8 0) Try.underlying23 HI.out.1 HI.out.2.1 HI.out.2.2.1 HI.out.2.2.2 rfl u m (bys (pre n l i)) rfl HO4.out (some ⟨h4, 0, none⟩) a 10 (bytesOf D) rfl HR4.out (fun h => by cases h) (by omega) ((HB.out.tr HW4.out).size) ?_; intro u5 w5 ho5 hg5
                              have HB5 : Hid (Bel w w5) := Below.grown (HB.out.tr HW4.out).bl hg5 (HB.out.tr HW4.out).size (fun b e => (HO4.out.lt b e).1)
                              have HK5 : Hid (Bk w5 wr.heap.size 40 #[.int .i64 y, .int .i64 x]) := bk_gr HK4.out hg5 (own_ty HO4.out HK4.out)
                              have HQ5 : Hid (Bk w5 w3.heap.size 40 #[.int .i64 q, .int .i64 r]) := bk_gr (HK.out.bel HW4.out) hg5 (own_ty HO4.out (HK.out.bel HW4.out))
                              have HO5 : Hid (w5.ownsRow w.heap.size 5 1 u5 (m + a) (bys (pre n l i ++ bytesOf D))) := (by rw [bys_app]; exact ho5)
                              clear ho5 hg5)
      have m0 := HK5.out.cell 0
      have m1 := HK5.out.cell 1
      have m2 := HQ5.out.cell 0
      have m3 := HQ5.out.cell 1
      simp only [List.getElem?_toArray, List.getElem?_cons_zero, List.getElem?_cons_succ] at m0 m1 m2 m3
      clear HK4 HR4 HO4 k0 k1
      go_wp2_with fail
      go_at_call 31
      refine (HPE.out _).mono ?_
      rintro e w6 ⟨h6, rfl, hh6, hr6, hb6⟩
      have hw6 : Bel w5 w6 := by first | exact hb6 | exact (Bel.rf.drwN _).tr hb6
      have HW6 := Lib.hid hw6
      have HR6 := Lib.hid hr6
      have HO6 := Lib.hid (own_bel1 HO5.out hw6)
      have HK6 := Lib.hid (HK5.out.bel hw6)
      have HQ6 := Lib.hid (HQ5.out.bel hw6)
      clear hr6 hb6 hw6 hh6 m0 m1 m2 m3
      go_upto_region 11 with (at_builtin; refine wpList_append_rd rfl (.tmp 34) (.tmp 40) 23 rfl w.heap.size 5 i0 (.int .u8 0) Try.underlying23 HI.out.1 HI.out.2.1 HI.out.2.2.1 HI.out.2.2.2 rfl u5 (m + a) (bys (pre n l i ++ bytesOf D)) rfl HO6.out (some ⟨h6, 0, none⟩) b 10 (bytesOf E) rfl HR6.out (fun h => by cases h) (by omega) ((HB5.out.tr HW6.out).size) ?_; intro u7 w7 ho7 hg7
                              have HB7 : Hid (Bel w w7) := Below.grown (HB5.out.tr HW6.out).bl hg7 (HB5.out.tr HW6.out).size (fun b e => (HO6.out.lt b e).1)
                              have HK7 : Hid (Bk w7 wr.heap.size 40 #[.int .i64 y, .int .i64 x]) := bk_gr HK6.out hg7 (own_ty HO6.out HK6.out)
                              have HQ7 : Hid (Bk w7 w3.heap.size 40 #[.int .i64 q, .int .i64 r]) := bk_gr HQ6.out hg7 (own_ty HO6.out HQ6.out)
                              have HO7 : Hid (w7.ownsRow w.heap.size 5 1 u7 (m + a + b) (bys (pre n l (i + 1)))) := (by rw [HNX.out, bys_app]; exact ho7)
                              clear ho7 hg7)
      have m0 := HK7.out.cell 0
      have m1 := HK7.out.cell 1
      have m2 := HQ7.out.fr 0
      have m3 := HQ7.out.fr 1
      have m4 := HQ7.out.cell 0
      have m5 := HQ7.out.cell 1
      have hq7 := own_ty HO7.out HQ7.out
      simp only [List.getElem?_toArray, List.getElem?_cons_zero, List.getElem?_cons_succ] at m0 m1 m4 m5
      have hw3 := HB3.out.size
      have HST : Hid (Bel w ((w7.setCell ⟨w3.heap.size, 0, none⟩ (.int .i64 y)).setCell ⟨w3.heap.size, 1, none⟩ (.int .i64 x))) := (HB7.out.st hw3 _).st hw3 _
      have HSQ : Hid (Bk ((w7.setCell ⟨w3.heap.size, 0, none⟩ (.int .i64 y)).setCell ⟨w3.heap.size, 1, none⟩ (.int .i64 x)) w3.heap.size 40 #[.int .i64 (la l (i + 1)).1, .int .i64 (la l (i + 1)).2]) := (by rw [HLA.out]; exact (HQ7.out.st 0 _).st 1 _)
      clear HK6 HQ6 HR6 HO6 HO5 HK5 HQ5 hw3
      go_wp2
      go_roundw
      case rel => exact ⟨i + 1, m + a + b, _, _, rfl, rfl, by omega, by go_num, HLEN.out, own_far (own_far HO7.out hq7 0 _) hq7 1 _, HSQ.out, HST.out⟩
      case measure => simp [intOf]; omega
    · obtain rfl : i = n := by omega
      have hal := pre_all i l HL.out
      rw [hal] at hm ho
      have hby := (pre_facts HVP.out hn i (Nat.le_refl _)).1
      rw [hal] at hby
      obtain ⟨A2, c2, rfl, hA2⟩ := own_any ho
      have hmp : 0 < m := by rw [← hm]; unfold body; simp
      obtain ⟨h9, rfl⟩ := hA2 hmp
      have hrd : Rd wr (some ⟨h9, 0, none⟩) m (body l) := Rd.own ho hby hm
      have HSE : Hid (∀ W, Bel wr W → _) := fun W hW => seal_ok (some ⟨h9, 0, none⟩) c2 m (body l) hm (by omega) W (hrd.bel hW)
      have HOB := Lib.hid ho
      clear hk ho hb hrd HO HK
      go_wp2_with fail
      go_at_call 32
      refine (HSE.out _ (by first | exact Bel.rf | exact Bel.rf.drwN _)).mono ?_
      rintro e w4 ⟨h4, rfl, hh4, hk4, hb4⟩
      have HW4 : Hid (Bel wr w4) := by first | exact hb4 | exact (Bel.rf.drwN _).tr hb4
      have HR4 := Lib.hid (rd_bk hk4 (seal4_byte _) 4 rfl)
      have HO4 := Lib.hid (own_bel1 HOB.out HW4.out)
      clear hk4 hb4 hh4
      go_wp2_with (at_builtin; refine wpList_append_rd rfl (.tmp 44) (.tmp 46) 23 rfl w.heap.size 5 i0 (.int .u8 0) Try.underlying23 HI.out.1 HI.out.2.1 HI.out.2.2.1 HI.out.2.2.2 rfl (.slice (some ⟨h9, 0, none⟩) m c2) m (bys (body l)) rfl HO4.out (some ⟨h4, 0, none⟩) 4 4 (seal4 (crc (body l))) rfl HR4.out (fun h => by cases h) (by omega) ((HB.out.tr HW4.out).size) ?_; intro u5 w5 ho5 hg5
                   have HB5 : Hid (Bel w w5) := Below.grown (HB.out.tr HW4.out).bl hg5 (HB.out.tr HW4.out).size (fun b e => (HO4.out.lt b e).1)
                   have HO5 : Hid (w5.ownsRow w.heap.size 5 1 u5 (pck l).length (bys (pck l))) := (by unfold pck; rw [bys_app, List.length_append, hm]; exact ho5)
                   clear ho5 hg5)
      go_ret2
      exact ⟨_, rfl, HO5.out, HB5.out⟩
end Go.Proofs.Ytdkibffbaamkkaa.Pk
