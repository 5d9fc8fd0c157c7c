/- Rows of parts of readings: slices.Grow, slices.Concat, clean.Merge. -/
import Derived.Test.YtgcjangnlbhicaaStC
import Derived.Lib.AppendZeros
namespace Go.Proofs.Ytgcjangnlbhicaa.St
open Go.ChangeShapes Go.WideShapes Go.RowKit Wo Sr Wi Rm Rg
set_option linter.unusedVariables false
theorem growr_zero (w : World) : Calls Try.prog 41 #[.slice none 0 0, .int .i64 0] w (SomeRs 0 [] w) := by
  go_enter Try.func41, Try.ntmps41
  go_wp2
  go_ret
  exact ⟨_, rfl, World.ownsRow_nil _ _ _ _, Bel.rf⟩
theorem under_intr : Try.prog.underlying 3 = some (.int .i64) := by kernel_rfl
set_option maxHeartbeats 1000000 in
theorem growr_some (n : Nat) (n1 : 1 ≤ n) (n2 : n ≤ 3000) (w : World) : Calls Try.prog 41 #[.slice none 0 0, .int .i64 (n : Int)] w (SomeRs 0 [] w) := by
  obtain ⟨i0, hi0, hz0, hz1, hz2⟩ := info_parts info_reading
  have hr := Lib.run_append_nil_zeros (P := Try.prog) w 23 3 23 28 i0 (.agg #[.int .i64 0, .int .i64 0]) .i64 .i64 Try.underlying23 under_intr hi0 hz0 n (by omega) (by omega) (by omega) (by rw [hz2]; omega)
  have HR := Lib.hid hr
  have i1 : (n : Int) > 0 := by omega
  have i2 : (n : Int) ≤ 3000 := by omega
  have i3 : ¬ (n : Int) < 0 := by omega
  clear hr hi0 hz0 hz1 hz2
  go_enter Try.func41, Try.ntmps41
  go_wp2_with (at_builtin; refine Lib.wpList_append_run _ rfl _ _ 23 3 rfl _ _ rfl rfl _ _ HR.out ?_)
  go_ret
  have hle : n ≤ maxLen := by unfold maxLen; omega
  refine ⟨_, rfl, ?_, (Bel.rf.al _).drw⟩
  have h := World.ownsRow_made (base := w.heap.size) (e := 28) (size := 2) w (Builtin.zeroCells #[Value.int IntKind.i64 0, Value.int IntKind.i64 0] n ++ Builtin.zeroCells #[Value.int IntKind.i64 0, Value.int IntKind.i64 0] (grownCap w n 0 28 - n)) (grownCap w n 0 28) (Nat.le_refl _) (grownCap_le_maxLen _ _ _ _ hle) (by rw [Array.size_append, size_zeroCells, size_zeroCells]; have := grownCap_ge w n 0 28; simp; omega)
  exact own_bel h Bel.rf.drw
theorem growr_any (n : Nat) (n2 : n ≤ 3000) (w : World) : Calls Try.prog 41 #[.slice none 0 0, .int .i64 (n : Int)] w (SomeRs 0 [] w) := by
  rcases Nat.eq_zero_or_pos n with h | h
  · subst h; exact growr_zero w
  · exact growr_some n h n2 w
/-- a value that reads as these readings -/
def Pt (w : World) (v : Value) (L : List Rp) : Prop := ∃ A n c, v = .slice A n c ∧ Zo w A n L ∧ Nz A n c
theorem Pt.bel {w w' : World} {v : Value} {L : List Rp} (h : Pt w v L) (hb : Bel w w') : Pt w' v L := by
  obtain ⟨A, n, c, h1, h2, h3⟩ := h
  exact ⟨A, n, c, h1, Zo.bel h2 hb, h3⟩
/-- a row of such values -/
def Zp (w : World) (G : Option Addr) (q : Nat) (P : List (List Rp)) (Vs : List Value) : Prop := Vs.length = q ∧ P.length = q ∧ (0 < q → ∃ g, G = some ⟨g, 0, none⟩ ∧ ∀ j, j < q → w.cell? ⟨g, j, none⟩ = some (Vs.getD j undef)) ∧ ∀ j, j < q → Pt w (Vs.getD j undef) (P.getD j [])
theorem Zp.bel {w w' : World} {G : Option Addr} {q : Nat} {P : List (List Rp)} {Vs : List Value} (h : Zp w G q P Vs) (hb : Bel w w') : Zp w' G q P Vs := by
  obtain ⟨h1, h2, h3, h4⟩ := h
  refine ⟨h1, h2, fun hq => ?_, fun j hj => (h4 j hj).bel hb⟩
  obtain ⟨g, e, hc⟩ := h3 hq
  exact ⟨g, e, fun j hj => hb.kp (hc j hj)⟩
theorem fla_next (P : List (List Rp)) (t : Nat) (h : t < P.length) : (P.take (t + 1)).flatten = (P.take t).flatten ++ P.getD t [] := by
  rw [List.take_add_one, List.getElem?_eq_getElem h, List.flatten_append, List.getD_eq_getElem?_getD, List.getElem?_eq_getElem h]
  simp
theorem fla_le (P : List (List Rp)) (t : Nat) : (P.take t).flatten.length ≤ P.flatten.length := by
  have e : P.flatten = (P.take t).flatten ++ (P.drop t).flatten := by rw [← List.flatten_append, List.take_append_drop]
  rw [e, List.length_append]; omega
set_option maxHeartbeats 8000000 in
set_option maxRecDepth 100000 in
theorem concat_ok (G : Option Addr) (q c : Nat) (P : List (List Rp)) (Vs : List Value) (hq : q ≤ 60) (hN : P.flatten.length ≤ 3000) (w : World) (hz : Zp w G q P Vs) :
    Calls Try.prog 25 #[.slice G q c] w (SomeRs P.flatten.length P.flatten w) := by
  have HZ := Lib.hid hz
  have hqi : (q : Int) ≤ 60 := by omega
  have HPL := Lib.hid hz.2.1
  have HFL : Hid (∀ t, (P.take t).flatten.length ≤ P.flatten.length) := fla_le P
  clear hz
  go_enter Try.func25, Try.ntmps25
  go_wp2
  go_loopw [3, 11] (fun s3 s11 wr => ∃ (t : Nat) (V : World), V = wr ∧ t ≤ q ∧ s3 = .int .i64 ((P.take t).flatten.length : Int) ∧ s11 = .int .i64 (t : Int) ∧ Bel w wr) (fun _ s11 _ => q - (intOf s11).toNat)
  case atStart => exact ⟨0, _, rfl, by omega, rfl, rfl, Bel.rf⟩
  case round =>
    obtain ⟨t, wr, hwr, ht, rfl, rfl, hb⟩ := hrel
    subst hwr
    have HB := Lib.hid hb
    rcases Nat.lt_or_ge t q with hlt | hge
    · obtain ⟨g, e, hc⟩ := HZ.out.2.2.1 (by omega)
      subst e
      obtain ⟨A0, n0, d0, hv0, hz0, _⟩ := HZ.out.2.2.2 t hlt
      have c1 := hb.kp (hc t hlt)
      rw [hv0] at c1
      have hnx := fla_next P t (by rw [HPL.out]; exact hlt)
      have hn1 := HFL.out (t + 1)
      have HTN : Hid ((P.take (t + 1)).flatten.length = (P.take t).flatten.length + n0) := by show _ = _; rw [hnx, List.length_append, hz0.1]
      rw [HTN.out] at hn1
      obtain ⟨a, ha⟩ : ∃ a, (P.take t).flatten.length = a := ⟨_, rfl⟩
      rw [ha] at HTN hn1
      rw [ha]
      have ti : (t : Int) < (q : Int) := by omega
      have ab : (a : Int) + (n0 : Int) ≤ 3000 := by omega
      have ab0 : ¬ (a : Int) + (n0 : Int) < 0 := by omega
      clear hb hn1 ha hnx hv0 hz0 hc
      go_wp2
      go_roundw
      case rel => exact ⟨t + 1, _, rfl, by omega, by rw [HTN.out]; go_num, by go_num, by first | exact HB.out | exact HB.out.drw | exact HB.out.drwN _⟩
      case measure => simp [intOf]; omega
    · obtain rfl : t = q := by omega
      clear hb
      have hta : P.take t = P := List.take_of_length_le (by rw [HPL.out]; omega)
      rw [hta]
      obtain ⟨N, hNN⟩ : ∃ N, P.flatten.length = N := ⟨_, rfl⟩
      rw [hNN] at hN ⊢
      have HNN := Lib.hid hNN
      have HTA := Lib.hid hta
      have GR : Hid (∀ W, _) := fun W => growr_any N (by omega) W
      clear hNN hta
      go_wp2_with (go_at_call 41; refine (GR.out _).mono ?_; rintro e w2 ⟨v, rfl, hown, hb2⟩)
      have hb12 := HB.out.tr hb2
      have HR0 : Hid (∃ (u : Nat) (V : World) (v' : Value), V = w2 ∧ v' = v ∧ u ≤ t ∧ (Value.int .i64 0) = .int .i64 (u : Int) ∧ V.ownsRow w.heap.size 28 2 v' ((P.take u).flatten.length) (rs ((P.take u).flatten)) ∧ Bel w V) := by
        refine ⟨0, _, _, rfl, rfl, Nat.zero_le _, rfl, ?_, hb12⟩
        exact own_mono hown HB.out.size
      clear hown hb2 hb12
      go_loopw [6, 27] (fun s6 s27 wr => ∃ (u : Nat) (V : World) (v' : Value), V = wr ∧ v' = s6 ∧ u ≤ t ∧ s27 = .int .i64 (u : Int) ∧ V.ownsRow w.heap.size 28 2 v' ((P.take u).flatten.length) (rs ((P.take u).flatten)) ∧ Bel w V) (fun _ s27 _ => t - (intOf s27).toNat)
      case atStart => exact HR0.out
      case round =>
        clear HR0
        obtain ⟨u, wr2, v', hwr, hv', hu, rfl, hown, hb⟩ := hrel
        subst hwr hv'
        rcases Nat.lt_or_ge u t with hlt | hge
        · obtain ⟨g, e, hc⟩ := HZ.out.2.2.1 (by omega)
          subst e
          obtain ⟨A0, n0, d0, hv0, hz0, hA0⟩ := HZ.out.2.2.2 u hlt
          have c1 := hb.kp (hc u hlt)
          rw [hv0] at c1
          have hnx := fla_next P u (by rw [HPL.out]; exact hlt)
          have hn1 := HFL.out (u + 1)
          have HTN : Hid ((P.take (u + 1)).flatten.length = (P.take u).flatten.length + n0 ∧ (P.take (u + 1)).flatten = (P.take u).flatten ++ P.getD u []) := ⟨by rw [hnx, List.length_append, hz0.1], hnx⟩
          rw [HTN.out.1, HNN.out] at hn1
          have HZU : Hid (Zo wr2 A0 n0 (P.getD u []) ∧ Nz A0 n0 d0) := ⟨Zo.bel hz0 hb, hA0⟩
          have HV := Lib.hid (And.intro hown hb)
          have hsz := hb.size
          have ui : (u : Int) < (t : Int) := by omega
          have HN1 : Hid ((P.take u).flatten.length + n0 ≤ 100000) := (by omega : _ ≤ _)
          clear hown hb hv0 hz0 hA0 hc hnx hn1
          go_wp2_with (at_builtin; refine list_appo _ rfl _ _ rfl w.heap.size v' _ _ rfl HV.out.1 A0 n0 d0 (P.getD u []) rfl HZU.out.1 HZU.out.2 HN1.out hsz ?_; intro v2 w3 h2 h3)
          go_roundw
          case rel => exact ⟨u + 1, _, _, rfl, rfl, by omega, by go_num, by rw [HTN.out.1, HTN.out.2]; exact h2, bel_grt HV.out.2 h3 (fun b e => (HV.out.1.lt b e).1)⟩
          case measure => simp [intOf]; omega
        · obtain rfl : u = t := by omega
          rw [HTA.out, HNN.out] at hown
          have HV := Lib.hid (And.intro hown hb)
          clear hown hb
          go_wp2
          go_ret
          refine ⟨_, rfl, ?_, HV.out.2⟩
          rw [HNN.out]
          exact HV.out.1
set_option maxHeartbeats 4000000 in
theorem merge_ok (G : Option Addr) (q c : Nat) (P : List (List Rp)) (Vs : List Value) (p : Int) (p1 : 1 ≤ p) (p5 : p ≤ 5) (hq : q ≤ 60) (hN : P.flatten.length ≤ 2000) (hv : Vrs P.flatten) (w : World) (hz : Zp w G q P Vs) :
    Calls Try.prog 16 #[.slice G q c, .int .i64 p] w (SomeCl p P.flatten w) := by
  have hc := concat_ok G q c P Vs hq (by omega) w hz
  obtain ⟨L, hL⟩ : ∃ L, P.flatten = L := ⟨_, rfl⟩
  rw [hL] at hc hN hv ⊢
  obtain ⟨n, hn⟩ : ∃ n, L.length = n := ⟨_, rfl⟩
  rw [hn] at hc hN
  have HC := Lib.hid hc
  have HV := Lib.hid hv
  have HL := Lib.hid hn
  clear hz hv hc hL hn
  go_enter Try.func16, Try.ntmps16
  go_wp2_with fail
  go_at_call 25
  refine HC.out.mono ?_
  rintro e w1 ⟨v, rfl, ho, hb⟩
  obtain ⟨A, ca, rfl, hz, hA⟩ := own_zn ho HL.out
  have HZ := Lib.hid (Zr.zo hz)
  have HA := Lib.hid hA
  have HB := Lib.hid hb
  clear ho hb hz hA
  go_wp2_with fail
  go_at_call 10
  refine (clean_ok A ca n L p p1 (by omega) hN HV.out _ (Zo.bel HZ.out (by repeat (first | exact Bel.rf | (with_reducible refine Bel.drwN ?_ _) | (with_reducible refine Bel.drw ?_) | (with_reducible refine Bel.al ?_ _)))) HA.out (fun h => by omega)).mono ?_
  rintro e w2 ⟨v, rfl, ho, hb⟩
  have HB2 : Hid (Bel w w2) := HB.out.tr (Bel.tr (by repeat (first | exact Bel.rf | (with_reducible refine Bel.drwN ?_ _) | (with_reducible refine Bel.drw ?_) | (with_reducible refine Bel.al ?_ _))) hb)
  have HO := Lib.hid (own_mono (a := w.heap.size) ho (by have := HB.out.size; simp at *; omega))
  clear ho hb
  go_wp2
  go_ret2
  exact ⟨_, rfl, by first | exact HO.out | exact own_bel HO.out (by repeat (first | exact Bel.rf | (with_reducible refine Bel.drwN ?_ _) | (with_reducible refine Bel.drw ?_) | (with_reducible refine Bel.al ?_ _))), by first | exact HB2.out | exact HB2.out.drwN _⟩
end Go.Proofs.Ytgcjangnlbhicaa.St
