/- series.Window and series.Cut of valid series. -/
import Derived.Test.YthpmgadmefhfpaaSer5
namespace Go.Proofs.Ythpmgadmefhfpaa.Se
open Go.ChangeShapes Go.WideShapes Go.RowKit Wo Sr Wi
set_option linter.unusedVariables false
theorem good_out {L : List Int} {i m : Nat} (h : L.length < i + m) : good L m i = false := by
  unfold good; exact decide_eq_false (fun h2 => by omega)
theorem good_part {L : List Int} {i m : Nat} (h : i + m ≤ L.length) : (!good L m i) = true ↔ ∃ j, j < m ∧ ((L.drop i).take m).getD j 0 = 1073741824 := by
  have e : ∀ j, j < m → ((L.drop i).take m).getD j 0 = L.getD (i + j) 1073741824 := fun j hj => by
    simp only [List.getD_eq_getElem?_getD, List.getElem?_take, List.getElem?_drop, hj, if_true]
    rw [List.getElem?_eq_getElem (show i + j < L.length by omega)]; rfl
  constructor
  · intro hb
    have hg : ¬ good L m i = true := by simpa using hb
    rw [good_iff] at hg
    refine Classical.byContradiction fun hne => hg ⟨h, fun j hj h2 => hne ⟨j, hj, by rw [e j hj]; exact h2⟩⟩
  · rintro ⟨j, hj, h2⟩
    have : ¬ good L m i = true := by
      rw [good_iff]
      rintro ⟨_, h3⟩
      exact h3 j hj (by rw [← e j hj]; exact h2)
    simpa using this
set_option maxHeartbeats 4000000 in
theorem window_any (st sp : Int) (A : Option Addr) (n c : Nat) (L : List Int) (h : Sb st sp n) (hs : Sv L) (i m : Nat) (m1 : 1 ≤ m) (m2 : m ≤ 300) (i2 : i ≤ 2500) (w : World) (hv : Vs w A n c L) :
    Calls Try.prog 13 #[.agg #[.int .i64 st, .int .i64 sp, .slice A n c], .int .i64 (i : Int), .int .i64 (m : Int)] w (SomeWin L i m w) := by
  have hn : n ≤ 2000 := h.2.2.2.2
  have hl := hv.1.1
  have VA : Hid (∀ W, Zi W A n L → _) := fun W hW => valid_ok st sp A n c L h hs W hW
  have HV := Lib.hid hv
  have HK := Lib.hid (Bk.nw w 24 #[.int .i64 st, .int .i64 sp, .slice A n c])
  have mi : 1 ≤ (m : Int) := by omega
  have mi2 : (m : Int) ≤ 300 := by omega
  have ii : (i : Int) ≤ 2500 := by omega
  have ni : (n : Int) ≤ 2000 := by omega
  rcases Nat.lt_or_ge n (i + m) with hlt | hge
  · have hg := good_out (L := L) (i := i) (m := m) (by omega)
    have WN : Hid (∀ W, _) := fun W => within_no st sp A n c i m (by omega) hlt (by omega) (by omega) W
    have HR : Hid (wz L i m = [] ∧ we L i m = 1) := ⟨by unfold wz; rw [hg]; rfl, by unfold we; rw [hg, if_neg (by simp), if_neg (by omega)]⟩
    clear hv hl hg h hs hlt
    go_enter Try.func13, Try.ntmps13
    go_wp2_with (first
      | (go_at_call 25; refine (VA.out _ (HV.out.1.bel (Bel.rf.al _))).mono ?_; rintro e w2 ⟨rfl, hb2⟩; have B1 := HK.out.bel hb2; have d0 := B1.cell 0; have d1 := B1.cell 1; have d2 := B1.cell 2; have dl := B1.lt; clear B1; have HB2 := Lib.hid hb2; clear hb2)
      | (go_at_call 29; refine (WN.out _).mono ?_; rintro e w3 ⟨rfl, hb3⟩; have HB3 := Lib.hid hb3; clear hb3))
    go_ret2
    refine ⟨none, 0, 0, by rw [HR.out.2]; rfl, by rw [HR.out.1]; rfl, by rw [HR.out.1]; exact ⟨rfl, fun h => by omega⟩, (Bel.rf.al _).tr (HB2.out.tr HB3.out)⟩
  · rcases clone_part A n c L (by omega) i m hge w hv with ⟨_, _, _, hm, _⟩ | ⟨g, rfl, ⟨_, hm, _⟩ | ⟨hci, hcl⟩⟩
    · omega
    · omega
    have WY : Hid (∀ W, _) := fun W => within_yes st sp (some ⟨g, 0, none⟩) n c i m (by omega) hge W
    have CL := Lib.hid hcl
    have CO : Hid (∀ W A' c', Zi W A' m ((L.drop i).take m) → _) := fun W A' c' hW => contains_any A' c' m ((L.drop i).take m) 1073741824 (!good L m i) (by omega) (good_part (by omega)) W hW
    have hnc := hv.2.1
    have s1 : (i : Int) ≤ (c : Int) := by omega
    have s2 : (i : Int) + (m : Int) ≤ (c : Int) := by omega
    have s3 : ((i : Int) + (m : Int)).toNat - i = m := by omega
    have s4 : (i : Int) ≤ (i : Int) + (m : Int) := by omega
    have HLE : Hid (i + m ≤ L.length) := by show _ ≤ _; omega
    obtain ⟨gd, hgd⟩ : ∃ b, good L m i = b := ⟨_, rfl⟩
    rw [hgd] at CO
    cases gd
    · have HR : Hid (wz L i m = [] ∧ we L i m = 13) := ⟨by unfold wz; rw [hgd]; rfl, by unfold we; rw [hgd, if_neg (by simp), if_pos HLE.out]⟩
      clear hv hl hgd h hs hge hcl hnc
      go_enter Try.func13, Try.ntmps13
      go_wp2_with (first
        | (go_at_call 25; refine (VA.out _ (HV.out.1.bel (Bel.rf.al _))).mono ?_; rintro e w2 ⟨rfl, hb2⟩; have B1 := HK.out.bel hb2; have d0 := B1.cell 0; have d1 := B1.cell 1; have d2 := B1.cell 2; have dl := B1.lt; have HB1 := Lib.hid B1; clear B1; have HB2 := Lib.hid ((Bel.rf.al _).tr hb2); clear hb2)
        | (go_at_call 29; refine (WY.out _).mono ?_; rintro e w3 ⟨rfl, hb3⟩; have B1 := HB1.out.bel hb3; have e0 := B1.cell 0; have e1 := B1.cell 1; have e2 := B1.cell 2; have HB3 := Lib.hid (HB2.out.tr hb3); clear hb3 B1)
        | (go_at_call 30; refine (CL.out _ HB3.out _).mono ?_; rintro e w4 ⟨A4, c4, rfl, hv4, hv4f, hb4⟩; clear hv4f; have HV4 := Lib.hid hv4; have HB4 := Lib.hid (HB3.out.tr hb4); clear hv4 hb4)
        | (go_at_call 31; refine (CO.out _ _ _ HV4.out.1).mono ?_; rintro e w5 ⟨rfl, hb5⟩; have HB5 := Lib.hid (HB4.out.tr hb5); clear hb5))
      go_ret2
      refine ⟨none, 0, 0, by rw [HR.out.2]; rfl, by rw [HR.out.1]; rfl, by rw [HR.out.1]; exact ⟨rfl, fun h => by omega⟩, HB5.out⟩
    · have HR : Hid (wz L i m = (L.drop i).take m ∧ we L i m = 0) := ⟨by unfold wz; rw [hgd]; rfl, by unfold we; rw [hgd]; rfl⟩
      clear hv hl hgd h hs hge hcl hnc
      go_enter Try.func13, Try.ntmps13
      go_wp2_with (first
        | (go_at_call 25; refine (VA.out _ (HV.out.1.bel (Bel.rf.al _))).mono ?_; rintro e w2 ⟨rfl, hb2⟩; have B1 := HK.out.bel hb2; have d0 := B1.cell 0; have d1 := B1.cell 1; have d2 := B1.cell 2; have dl := B1.lt; have HB1 := Lib.hid B1; clear B1; have HB2 := Lib.hid ((Bel.rf.al _).tr hb2); clear hb2)
        | (go_at_call 29; refine (WY.out _).mono ?_; rintro e w3 ⟨rfl, hb3⟩; have B1 := HB1.out.bel hb3; have e0 := B1.cell 0; have e1 := B1.cell 1; have e2 := B1.cell 2; have HB3 := Lib.hid (HB2.out.tr hb3); clear hb3 B1)
        | (go_at_call 30; refine (CL.out _ HB3.out _).mono ?_; rintro e w4 ⟨A4, c4, rfl, hv4, hv4f, hb4⟩; clear hv4f; have HV4 := Lib.hid hv4; have HB4 := Lib.hid (HB3.out.tr hb4); clear hv4 hb4)
        | (go_at_call 31; refine (CO.out _ _ _ HV4.out.1).mono ?_; rintro e w5 ⟨rfl, hb5⟩; have HB5 := Lib.hid (HB4.out.tr hb5); have HV5 := Lib.hid (HV4.out.1.bel hb5); clear hb5))
      go_ret2
      refine ⟨A4, m, c4, by rw [HR.out.2]; rfl, by rw [HR.out.1, part_len HLE.out], by rw [HR.out.1]; exact HV5.out, HB5.out⟩
theorem kp_far {w : World} {p q : Addr} {v : Value} (h : w.cell? p = some v) (hn : p.block ≠ q.block) (u : Value) : (w.setCell q u).cell? p = some v := (World.cell?_setCell_other _ _ _ _ (fun e => hn (congrArg Addr.block e).symm)).trans h
def SomeCut (st sp : Int) (k : Nat) (Z : List Int) (w : World) (e : Ending) (w' : World) : Prop := ∃ A c, e = .returned (.tuple #[.agg #[.int .i64 st, .int .i64 sp, .slice A k c], .int .i64 0]) ∧ Vs w' A k c Z ∧ Bel w w'
set_option maxHeartbeats 4000000 in
theorem cut_any (st sp : Int) (A : Option Addr) (n c : Nat) (L : List Int) (h : Sb st sp n) (hs : Sv L) (i k : Nat) (hik : i + k ≤ n) (p : Int) (hp : st + (i : Int) * sp = p) (w : World) (hv : Vs w A n c L) :
    Calls Try.prog 17 #[.agg #[.int .i64 st, .int .i64 sp, .slice A n c], .int .i64 (i : Int), .int .i64 (k : Int)] w (SomeCut p sp k ((L.drop i).take k) w) := by
  have hn : n ≤ 2000 := h.2.2.2.2
  have hl := hv.1.1
  have VA : Hid (∀ W, Zi W A n L → _) := fun W hW => valid_ok st sp A n c L h hs W hW
  have WY : Hid (∀ W, _) := fun W => within_yes st sp A n c i k (by omega) hik W
  have HV := Lib.hid hv
  have HK := Lib.hid ((Bk.nw w 24 #[.int .i64 st, .int .i64 sp, .slice A n c]).al (.cells #[.int .i64 0, .int .i64 0, .slice none 0 0] 24))
  have HQ := Lib.hid (Bk.nq (w.alloc (.cells #[.int .i64 st, .int .i64 sp, .slice A n c] 24)) 24 #[.int .i64 0, .int .i64 0, .slice none 0 0] (g := w.heap.size + 1) (by simp))
  have hnc := hv.2.1
  obtain ⟨a1, a2, a3, a4, a5⟩ := h
  obtain ⟨b0, b1⟩ := sb_mul a3 a4 (show i ≤ 3000 by omega)
  rw [Int.mul_comm] at b0 b1
  obtain ⟨q, hq⟩ : ∃ q, (i : Int) * sp = q := ⟨_, rfl⟩
  rw [hq] at b0 b1 hp
  have wq : IntKind.i64.wrap q = q := IntWalk.i64_in _ (by omega)
  have wp1 : IntKind.i64.wrap p = p := IntWalk.i64_in _ (by omega)
  have pb : p ≤ 1099511627776 := by omega
  have pb2 : 0 ≤ p := by omega
  have s1 : (i : Int) ≤ (c : Int) := by omega
  have s2 : (i : Int) + (k : Int) ≤ (c : Int) := by omega
  have s3 : ((i : Int) + (k : Int)).toNat - i = k := by omega
  have s4 : (i : Int) ≤ (i : Int) + (k : Int) := by omega
  have s5 : 0 ≤ (i : Int) + (k : Int) := by omega
  have wk : IntKind.i64.wrap ((i : Int) + (k : Int)) = (i : Int) + (k : Int) := IntWalk.i64_in _ (by omega)
  have ni : (n : Int) ≤ 2000 := by omega
  have ii : (i : Int) ≤ 2000 := by omega
  have ki : (k : Int) ≤ 2000 := by omega
  rcases clone_part A n c L (by omega) i k hik w hv with ⟨rfl, rfl, rfl, rfl, rfl, rfl, hcl⟩ | ⟨g, rfl, ⟨hci, hk0, hcl⟩ | ⟨hci, hcl⟩⟩
  · have hq0 : q = 0 := by rw [← hq]; simp
    subst hq0
    have hps : p = st := by omega
    subst hps
    have CL := Lib.hid hcl
    have wk0 : IntKind.i64.wrap 0 = 0 := by decide
    have wst : IntKind.i64.wrap p = p := wp1
    clear hp hq b0 b1 wq wp1 s1 s2 s3 s4 s5 wk ni ii ki
    clear hv hl hs hcl hnc a1 a2 a3 a4 a5
    go_enter Try.func17, Try.ntmps17
    go_wp2_with (first
        | (go_at_call 25; refine (VA.out _ (HV.out.1.bel ((Bel.rf.al _).al _))).mono ?_; rintro e w2 ⟨rfl, hb2⟩; have B1 := HK.out.bel hb2; have d0 := B1.cell 0; have d1 := B1.cell 1; have d2 := B1.cell 2; have dl := B1.lt; have HB1 := Lib.hid B1; clear B1; have HB2 := Lib.hid (((Bel.rf.al _).al _).tr hb2); have HQ2 := Lib.hid (HQ.out.bel hb2); clear hb2)
        | (go_at_call 29; refine (WY.out _).mono ?_; rintro e w3 ⟨rfl, hb3⟩; have B1 := HB1.out.bel hb3; have e0 := B1.cell 0; have e1 := B1.cell 1; have e2 := B1.cell 2; have HB3 := Lib.hid (HB2.out.tr hb3); have HB1' := Lib.hid B1; have HQ3 := Lib.hid (HQ2.out.bel hb3); clear hb3 B1))
    clear d0 d1 d2 dl
    go_region_held3 (fun w' => w'.cell? ⟨w.heap.size, 0, none⟩ = some (.int .i64 p) ∧ w'.cell? ⟨w.heap.size, 1, none⟩ = some (.int .i64 sp) ∧ w'.cell? ⟨w.heap.size, 2, none⟩ = some (.slice none 0 0))
      ((refine ⟨?_, ?_, ?_⟩) <;> (repeat (first | exact e0 | exact e1 | exact e2 | (with_reducible refine kp_al ?_ _) | (with_reducible refine kp_drwN ?_ _) | (with_reducible refine kp_drw ?_) | (with_reducible refine kp_far ?_ (Nat.ne_of_lt (Nat.lt_succ_self _)) _) | (refine Bel.kp (by assumption) ?_))))
      (first
        | (go_at_call 30; (with_reducible refine (CL.out _ (HB3.out.tr (by repeat (first | exact Bel.rf | (with_reducible refine Bel.drwN ?_ _) | (with_reducible refine Bel.drw ?_))))).mono ?_); rintro e w4 ⟨A4, c4, rfl, hv4, hv4f, hb4⟩; have HV4 := Lib.hid hv4; have HF4 := Lib.hid hv4f; clear hv4f; have HB4 : Hid (Bel w3 w4) := (by first | exact hb4 | exact Bel.rf.drw.tr hb4 | exact (Bel.rf.drwN _).tr hb4); have B4 := HQ3.out.bel HB4.out; have q0 := B4.cell 0; have q1 := B4.cell 1; have q2 := B4.cell 2; have f0 := B4.fr 0; have f1 := B4.fr 1; have f2 := B4.fr 2; have ql := B4.lt; have HQ4 := Lib.hid B4; clear B4 hv4))
    all_goals
      go_wp2
      refine bodyPost_ret (v := .tuple #[.agg #[.int .i64 p, .int .i64 sp, .slice A4 0 c4], .int .i64 0]) (results_s2 Try.results17 _ _ (w.heap.size + 1) _ _ _ rfl (((HQ4.out.st 0 _).st 1 _).st 2 _)) rfl ?_
      have hne : w.heap.size ≤ w.heap.size + 1 := by omega
      have hfr : ∀ ad, A4 = some ad → ad.block ≠ w.heap.size + 1 := fun ad e => by have := HF4.out ad e; have := HQ3.out.lt; simp at *; omega
      refine ⟨A4, c4, rfl, ?_, (((HB3.out.tr HB4.out).st (p := ⟨w.heap.size + 1, 0, none⟩) hne _).st (p := ⟨w.heap.size + 1, 1, none⟩) hne _).st (p := ⟨w.heap.size + 1, 2, none⟩) hne _⟩
      exact (((HV4.out.far (q := ⟨w.heap.size + 1, 0, none⟩) hfr _).far (q := ⟨w.heap.size + 1, 1, none⟩) hfr _).far (q := ⟨w.heap.size + 1, 2, none⟩) hfr _)
  · subst hci hk0
    have CL := Lib.hid hcl
    have wkc : IntKind.i64.wrap (c : Int) = (c : Int) := IntWalk.i64_in _ (by omega)
    have nc : (n : Int) ≤ (c : Int) := by omega
    clear hv hl hs hcl hnc a1 a2 a3 a4 a5
    go_enter Try.func17, Try.ntmps17
    go_wp2_with (first
        | (go_at_call 25; refine (VA.out _ (HV.out.1.bel ((Bel.rf.al _).al _))).mono ?_; rintro e w2 ⟨rfl, hb2⟩; have B1 := HK.out.bel hb2; have d0 := B1.cell 0; have d1 := B1.cell 1; have d2 := B1.cell 2; have dl := B1.lt; have HB1 := Lib.hid B1; clear B1; have HB2 := Lib.hid (((Bel.rf.al _).al _).tr hb2); have HQ2 := Lib.hid (HQ.out.bel hb2); clear hb2)
        | (go_at_call 29; refine (WY.out _).mono ?_; rintro e w3 ⟨rfl, hb3⟩; have B1 := HB1.out.bel hb3; have e0 := B1.cell 0; have e1 := B1.cell 1; have e2 := B1.cell 2; have HB3 := Lib.hid (HB2.out.tr hb3); have HB1' := Lib.hid B1; have HQ3 := Lib.hid (HQ2.out.bel hb3); clear hb3 B1))
    clear d0 d1 d2 dl
    go_region_held3 (fun w' => w'.cell? ⟨w.heap.size, 0, none⟩ = some (.int .i64 st) ∧ w'.cell? ⟨w.heap.size, 1, none⟩ = some (.int .i64 sp) ∧ w'.cell? ⟨w.heap.size, 2, none⟩ = some (.slice (some ⟨g, 0, none⟩) n c))
      ((refine ⟨?_, ?_, ?_⟩) <;> (repeat (first | exact e0 | exact e1 | exact e2 | (with_reducible refine kp_al ?_ _) | (with_reducible refine kp_drwN ?_ _) | (with_reducible refine kp_drw ?_) | (with_reducible refine kp_far ?_ (Nat.ne_of_lt (Nat.lt_succ_self _)) _) | (refine Bel.kp (by assumption) ?_))))
      (first
        | (go_at_call 30; (with_reducible refine (CL.out _ (HB3.out.tr (by repeat (first | exact Bel.rf | (with_reducible refine Bel.drwN ?_ _) | (with_reducible refine Bel.drw ?_)))) _).mono ?_); rintro e w4 ⟨A4, c4, rfl, hv4, hv4f, hb4⟩; have HV4 := Lib.hid hv4; have HF4 := Lib.hid hv4f; clear hv4f; have HB4 : Hid (Bel w3 w4) := (by first | exact hb4 | exact Bel.rf.drw.tr hb4 | exact (Bel.rf.drwN _).tr hb4); have B4 := HQ3.out.bel HB4.out; have q0 := B4.cell 0; have q1 := B4.cell 1; have q2 := B4.cell 2; have f0 := B4.fr 0; have f1 := B4.fr 1; have f2 := B4.fr 2; have ql := B4.lt; have HQ4 := Lib.hid B4; clear B4 hv4))
    all_goals
      go_wp2
      refine bodyPost_ret (v := .tuple #[.agg #[.int .i64 p, .int .i64 sp, .slice A4 0 c4], .int .i64 0]) (results_s2 Try.results17 _ _ (w.heap.size + 1) _ _ _ rfl (((HQ4.out.st 0 _).st 1 _).st 2 _)) rfl ?_
      have hne : w.heap.size ≤ w.heap.size + 1 := by omega
      have hfr : ∀ ad, A4 = some ad → ad.block ≠ w.heap.size + 1 := fun ad e => by have := HF4.out ad e; have := HQ3.out.lt; simp at *; omega
      refine ⟨A4, c4, rfl, ?_, (((HB3.out.tr HB4.out).st (p := ⟨w.heap.size + 1, 0, none⟩) hne _).st (p := ⟨w.heap.size + 1, 1, none⟩) hne _).st (p := ⟨w.heap.size + 1, 2, none⟩) hne _⟩
      exact (((HV4.out.far (q := ⟨w.heap.size + 1, 0, none⟩) hfr _).far (q := ⟨w.heap.size + 1, 1, none⟩) hfr _).far (q := ⟨w.heap.size + 1, 2, none⟩) hfr _)
  · have CL := Lib.hid hcl
    clear hv hl hs hcl hnc a1 a2 a3 a4 a5
    go_enter Try.func17, Try.ntmps17
    go_wp2_with (first
        | (go_at_call 25; refine (VA.out _ (HV.out.1.bel ((Bel.rf.al _).al _))).mono ?_; rintro e w2 ⟨rfl, hb2⟩; have B1 := HK.out.bel hb2; have d0 := B1.cell 0; have d1 := B1.cell 1; have d2 := B1.cell 2; have dl := B1.lt; have HB1 := Lib.hid B1; clear B1; have HB2 := Lib.hid (((Bel.rf.al _).al _).tr hb2); have HQ2 := Lib.hid (HQ.out.bel hb2); clear hb2)
        | (go_at_call 29; refine (WY.out _).mono ?_; rintro e w3 ⟨rfl, hb3⟩; have B1 := HB1.out.bel hb3; have e0 := B1.cell 0; have e1 := B1.cell 1; have e2 := B1.cell 2; have HB3 := Lib.hid (HB2.out.tr hb3); have HB1' := Lib.hid B1; have HQ3 := Lib.hid (HQ2.out.bel hb3); clear hb3 B1))
    clear d0 d1 d2 dl
    go_region_held3 (fun w' => w'.cell? ⟨w.heap.size, 0, none⟩ = some (.int .i64 st) ∧ w'.cell? ⟨w.heap.size, 1, none⟩ = some (.int .i64 sp) ∧ w'.cell? ⟨w.heap.size, 2, none⟩ = some (.slice (some ⟨g, 0, none⟩) n c))
      ((refine ⟨?_, ?_, ?_⟩) <;> (repeat (first | exact e0 | exact e1 | exact e2 | (with_reducible refine kp_al ?_ _) | (with_reducible refine kp_drwN ?_ _) | (with_reducible refine kp_drw ?_) | (with_reducible refine kp_far ?_ (Nat.ne_of_lt (Nat.lt_succ_self _)) _) | (refine Bel.kp (by assumption) ?_))))
      (first
        | (go_at_call 30; (with_reducible refine (CL.out _ (HB3.out.tr (by repeat (first | exact Bel.rf | (with_reducible refine Bel.drwN ?_ _) | (with_reducible refine Bel.drw ?_)))) _).mono ?_); rintro e w4 ⟨A4, c4, rfl, hv4, hv4f, hb4⟩; have HV4 := Lib.hid hv4; have HF4 := Lib.hid hv4f; clear hv4f; have HB4 : Hid (Bel w3 w4) := (by first | exact hb4 | exact Bel.rf.drw.tr hb4 | exact (Bel.rf.drwN _).tr hb4); have B4 := HQ3.out.bel HB4.out; have q0 := B4.cell 0; have q1 := B4.cell 1; have q2 := B4.cell 2; have f0 := B4.fr 0; have f1 := B4.fr 1; have f2 := B4.fr 2; have ql := B4.lt; have HQ4 := Lib.hid B4; clear B4 hv4))
    all_goals
      go_wp2
      refine bodyPost_ret (v := .tuple #[.agg #[.int .i64 p, .int .i64 sp, .slice A4 k c4], .int .i64 0]) (results_s2 Try.results17 _ _ (w.heap.size + 1) _ _ _ rfl (((HQ4.out.st 0 _).st 1 _).st 2 _)) rfl ?_
      have hne : w.heap.size ≤ w.heap.size + 1 := by omega
      have hfr : ∀ ad, A4 = some ad → ad.block ≠ w.heap.size + 1 := fun ad e => by have := HF4.out ad e; have := HQ3.out.lt; simp at *; omega
      refine ⟨A4, c4, rfl, ?_, (((HB3.out.tr HB4.out).st (p := ⟨w.heap.size + 1, 0, none⟩) hne _).st (p := ⟨w.heap.size + 1, 1, none⟩) hne _).st (p := ⟨w.heap.size + 1, 2, none⟩) hne _⟩
      exact (((HV4.out.far (q := ⟨w.heap.size + 1, 0, none⟩) hfr _).far (q := ⟨w.heap.size + 1, 1, none⟩) hfr _).far (q := ⟨w.heap.size + 1, 2, none⟩) hfr _)
end Go.Proofs.Ythpmgadmefhfpaa.Se
