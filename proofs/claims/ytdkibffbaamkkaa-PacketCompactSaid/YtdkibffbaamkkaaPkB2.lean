/- The contract of packet.decodeReading, whole. -/
import Derived.Test.YtdkibffbaamkkaaPkB
namespace Go.Proofs.Ytdkibffbaamkkaa.Pk
open Go.ChangeShapes Go.WideShapes Go.RowKit Wo Sr Wi Rm Rg Cd Cr By
set_option linter.unusedVariables false
set_option maxHeartbeats 4000000 in
theorem rdg_ok (A : Option Addr) (ca m at_ : Nat) (L : List Nat) (t v : Int) (hm : m ≤ 1000000) (hat : at_ ≤ m) (t0 : 0 ≤ t) (t1 : t ≤ 1099511627776) (v0 : -1000 ≤ v) (v1 : v ≤ 1000) (w : World) (hr : Rd w A m L) :
    Calls Try.prog 49 #[.slice A m ca, .int .i64 (at_ : Int), .agg #[.int .i64 t, .int .i64 v]] w (SomeRd L m at_ t v w) := by
  obtain ⟨d1, hd1⟩ : ∃ d, dec L at_ = d := ⟨_, rfl⟩
  have HI1 : Hid (∀ W, Bel w W → _) := fun W hW => int_as A ca L m at_ hr.1 d1 hd1 hat (by omega) W (hr.bel hW)
  obtain ⟨q1, k1, e1⟩ := d1
  simp only [] at HI1
  rcases Classical.em (e1 = 0) with h1 | h1
  · subst h1
    obtain ⟨hq1, j1, rfl, hj1, hl1, hdr1⟩ := dec_canon hr.2.1 (by rw [hr.1]; exact hat) hd1
    rw [hr.1] at hl1
    obtain ⟨d2, hd2⟩ : ∃ d, dec L j1 = d := ⟨_, rfl⟩
    have HI2 : Hid (∀ W, Bel w W → _) := fun W hW => int_as A ca L m j1 hr.1 d2 hd2 hl1 (by omega) W (hr.bel hW)
    obtain ⟨q2, k2, e2⟩ := d2
    simp only [] at HI2
    have HD1 := Lib.hid (And.intro hq1 hdr1)
    rcases Classical.em (e2 = 0) with h2 | h2
    · subst h2
      obtain ⟨hq2, j2, rfl, hj2, hl2, hdr2⟩ := dec_canon hr.2.1 (by rw [hr.1]; exact hl1) hd2
      rw [hr.1] at hl2
      have HD2 := Lib.hid (And.intro hq2 hdr2)
      obtain ⟨T, hT⟩ : ∃ T, wrap64 (t + q1) = T := ⟨_, rfl⟩
      obtain ⟨V, hV⟩ : ∃ T, wrap64 (v + q2) = T := ⟨_, rfl⟩
      have HT := Lib.hid (And.intro hT hV)
      have HC3 : Hid (∀ (T' V' : Int) (R : List Nat), Vr T' V' → L.drop at_ = bytesOf (T' - t) ++ (bytesOf (V' - v) ++ R) → Vr T V) := fun T' V' R hv hR => by
        have hv2 := hv
        unfold Vr at hv2
        rw [hdr1] at hR
        have h8 := bytes_inj hq1 (by unfold In64; omega) hR
        have h7 := h8.2
        rw [hdr2] at h7
        have h6 := bytes_inj hq2 (by unfold In64; omega) h7
        have e5 : t + q1 = T' := by omega
        have e6 : v + q2 = V' := by omega
        rw [e5, IntWalk.wrap64_in _ (by omega)] at hT
        rw [e6, IntWalk.wrap64_in _ (by omega)] at hV
        rw [← hT, ← hV]
        exact hv
      clear hr hd1 hd2 hdr1 hdr2 hq1 hq2
      go_enter Try.func49, Try.ntmps49
      go_wp2_with fail
      go_at_call 48
      refine (HI1.out _ (by repeat (first | exact Bel.rf | (with_reducible refine Bel.drwN ?_ _) | (with_reducible refine Bel.drw ?_) | (with_reducible refine Bel.al ?_ _)))).mono ?_
      rintro e w1 ⟨rfl, rfl⟩
      go_wp2_with fail
      go_at_call 48
      refine (HI2.out _ (by repeat (first | exact Bel.rf | (with_reducible refine Bel.drwN ?_ _) | (with_reducible refine Bel.drw ?_) | (with_reducible refine Bel.al ?_ _)))).mono ?_
      rintro e w1 ⟨rfl, rfl⟩
      go_wp2_with fail
      go_at_call 44
      refine (reading_any T V _).mono ?_
      rintro e w3 ⟨b, rfl, hb, hb3⟩
      have K1 : Bk w3 (w.heap.size + 1) 40 #[.int .i64 0, .int .i64 0] := Bk.bel ((Bk.nq (w.alloc _) _ _ (by simp)).al _) hb3
      have K2 : Bk w3 (w.heap.size + 1 + 1) 40 #[.int .i64 T, .int .i64 V] := Bk.bel (Bk.nq ((w.alloc _).alloc _) _ _ (by simp)) hb3
      have HB3 : Hid (Bel w w3) := Bel.tr (by repeat (first | exact Bel.rf | (with_reducible refine Bel.drwN ?_ _) | (with_reducible refine Bel.drw ?_) | (with_reducible refine Bel.al ?_ _))) hb3
      have HK1 := Lib.hid K1
      have f0 := K1.fr 0
      have f1 := K1.fr 1
      have c0 := K1.cell 0
      have c1 := K1.cell 1
      have c2 := K2.cell 0
      have c3 := K2.cell 1
      simp only [List.getElem?_toArray, List.getElem?_cons_zero, List.getElem?_cons_succ] at c0 c1 c2 c3
      have HBV := Lib.hid hb
      clear K1 K2 hb3 hb
      rcases b with _ | _
      · go_wp2
        refine bodyPost_ret (v := .tuple #[.agg #[.int .i64 0, .int .i64 0], .int .i64 0, .int .i64 1]) (results_r3 Try.results49 _ _ (w.heap.size + 1) _ _ _ _ rfl rfl rfl ((HK1.out.st 0 _).st 1 _)) rfl ?_
        exact ⟨0, 0, 0, 1, rfl, (HB3.out.st (by simp) _).st (by simp) _, (fun h => by cases h), fun T' V' R hv hR => absurd (HBV.out.2 (HC3.out T' V' R hv hR)) (by decide)⟩
      · have HV := Lib.hid (HBV.out.1 rfl)
        go_wp2
        have hv := HV.out
        refine bodyPost_ret (v := .tuple #[.agg #[.int .i64 T, .int .i64 V], .int .i64 (j2 : Int), .int .i64 0]) (results_r3 Try.results49 _ _ (w.heap.size + 1) _ _ _ _ rfl rfl rfl ((HK1.out.st 0 _).st 1 _)) rfl ?_
        refine ⟨T, V, _, 0, rfl, (HB3.out.st (by simp) _).st (by simp) _, fun _ => ⟨hv, j2, rfl, by omega, hl2, ?_⟩, fun _ _ _ _ _ => rfl⟩
        have eT := add_safe HD1.out.1 (by omega) t1 T HT.out.1 (by have := hv.1; omega) hv.2.1
        have eV := add_safe HD2.out.1 v0 (by omega) V HT.out.2 hv.2.2.1 (by have := hv.2.2.2; omega)
        rw [HD1.out.2, HD2.out.2, show T - t = q1 by omega, show V - v = q2 by omega]
    · have h0 : (e2 != 0) = true := by simpa using h2
      have HC2 : Hid (∀ (T V : Int) (R : List Nat), Vr T V → L.drop at_ = bytesOf (T - t) ++ (bytesOf (V - v) ++ R) → e2 = 0) := fun T V R hv hR => by
        unfold Vr at hv
        rw [hdr1] at hR
        have h8 := (bytes_inj hq1 (by unfold In64; omega) hR).2
        have h9 := dec_bytes (by omega) (by omega) h8
        rw [hd2] at h9
        injection h9 with _ h9
        injection h9
      clear hr hd1 hd2 hdr1 hq1
      go_enter Try.func49, Try.ntmps49
      go_wp2_with fail
      go_at_call 48
      refine (HI1.out _ (by repeat (first | exact Bel.rf | (with_reducible refine Bel.drwN ?_ _) | (with_reducible refine Bel.drw ?_) | (with_reducible refine Bel.al ?_ _)))).mono ?_
      rintro e w1 ⟨rfl, rfl⟩
      go_wp2_with fail
      go_at_call 48
      refine (HI2.out _ (by repeat (first | exact Bel.rf | (with_reducible refine Bel.drwN ?_ _) | (with_reducible refine Bel.drw ?_) | (with_reducible refine Bel.al ?_ _)))).mono ?_
      rintro e w1 ⟨rfl, rfl⟩
      go_wp2
      refine bodyPost_ret (v := .tuple #[.agg #[.int .i64 0, .int .i64 0], .int .i64 0, .int .i64 e2]) (results_r3 Try.results49 _ _ (w.heap.size + 1) _ _ _ _ rfl rfl rfl (Bk.nq _ _ _ (by simp))) rfl ?_
      exact ⟨0, 0, 0, e2, rfl, (Bel.rf.al _).al _, fun h => absurd h h2, HC2.out⟩
  · have h0 : (e1 != 0) = true := by simpa using h1
    have HC1 : Hid (∀ (T V : Int) (R : List Nat), Vr T V → L.drop at_ = bytesOf (T - t) ++ (bytesOf (V - v) ++ R) → e1 = 0) := fun T V R hv hR => by
      unfold Vr at hv
      have h9 := dec_bytes (by omega) (by omega) hR
      rw [hd1] at h9
      injection h9 with _ h9
      injection h9
    clear hr hd1
    go_enter Try.func49, Try.ntmps49
    go_wp2_with fail
    go_at_call 48
    refine (HI1.out _ (by repeat (first | exact Bel.rf | (with_reducible refine Bel.drwN ?_ _) | (with_reducible refine Bel.drw ?_) | (with_reducible refine Bel.al ?_ _)))).mono ?_
    rintro e w1 ⟨rfl, rfl⟩
    go_wp2
    refine bodyPost_ret (v := .tuple #[.agg #[.int .i64 0, .int .i64 0], .int .i64 0, .int .i64 e1]) (results_r3 Try.results49 _ _ (w.heap.size + 1) _ _ _ _ rfl rfl rfl (Bk.nq _ _ _ (by simp))) rfl ?_
    exact ⟨0, 0, 0, e1, rfl, (Bel.rf.al _).al _, fun h => absurd h h1, HC1.out⟩
end Go.Proofs.Ytdkibffbaamkkaa.Pk
