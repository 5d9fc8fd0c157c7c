/- resample: the value at a time. -/
import Derived.Test.YtdkibffbaamkkaaRes2
namespace Go.Proofs.Ytdkibffbaamkkaa.Rg
open Go.ChangeShapes Go.WideShapes Go.RowKit Wo Sr Wi Rm
set_option linter.unusedVariables false
theorem res_eq {x : Int × Bool} {a : Int} {b : Bool} (h : x = (a, b)) : Ending.returned (.tuple #[.int .i64 a, .bool b]) = .returned (.tuple #[.int .i64 x.1, .bool x.2]) := by rw [h]
theorem al2_1 (w : World) (o p : Obj) {k : Nat} {t : TypeId} {cs : Array Value} (h : Bk w k t cs) : Bk ((w.alloc o).alloc p) k t cs := (h.al o).al p
set_option maxHeartbeats 8000000 in
set_option maxRecDepth 100000 in
theorem value_ok (A : Option Addr) (ca n : Nat) (l : List Rp) (hn : n ≤ 2000) (hs : Asc l) (f s c r q t : Int) (t0 : 0 ≤ t) (t1 : t ≤ 1099511627776) (r0 : 1 ≤ r) (r1 : r ≤ 3) (q0 : 0 ≤ q) (q1 : q ≤ 1099511627776) (w : World) (h : Zr w A n l) :
    Calls Try.prog 41 #[.slice A n ca, gv f s c r q, .int .i64 t] w fun e w' => e = .returned (.tuple #[.int .i64 (val l r q t).1, .bool (val l r q t).2]) ∧ Bel w w' := by
  have H1 := Lib.hid h
  have HS := Lib.hid hs
  have ni : (n : Int) ≤ 2000 := by omega
  have hL := h.1
  obtain ⟨i, hi⟩ : ∃ i, lb l t = i := ⟨_, rfl⟩
  have hile : i ≤ n := by have := lb_le l t; omega
  have HSR : Hid (∀ W, Bel w W → Calls Try.prog 53 #[.slice A n ca, .int .i64 t, .func (.func 54) #[] #[]] W fun e w' => e = .returned (.tuple #[.int .i64 (i : Int), .bool (decide (i < n ∧ tm l i = t))]) ∧ Bel W w') := fun W hW => by
    have := search_ok A ca n l hn HS.out t W (H1.out.bel hW)
    rwa [hi] at this
  unfold gv
  clear h hs
  rcases Classical.em (i < n ∧ tm l i = t) with hex | hex
  · have HV : Hid (val l r q t = (vl l i, true)) := by
      show _ = _
      unfold val
      rw [hi, hL, if_pos hex]
    have hd : decide (i < n ∧ tm l i = t) = true := decide_eq_true hex
    rw [hd] at HSR
    have HEX := Lib.hid hex
    have ii : (i : Int) < (n : Int) := by omega
    clear hd hex hi
    go_enter Try.func41, Try.ntmps41
    go_wp2_with fail
    go_at_call 53
    refine (HSR.out _ (Bel.rf.al _)).mono ?_
    rintro e w1 ⟨rfl, hb⟩
    have HB : Hid (Bel w w1) := (Bel.rf.al _).tr hb
    clear hb
    obtain ⟨g, rfl, hab, hac⟩ := (H1.out.bel HB.out).2 (by omega)
    obtain ⟨c1, c2⟩ := hac i (by omega)
    clear hab hac
    go_wp2
    go_ret2
    exact ⟨res_eq HV.out, by first | exact HB.out | exact HB.out.drwN _⟩
  · have hd : decide (i < n ∧ tm l i = t) = false := decide_eq_false hex
    rw [hd] at HSR
    have HEX := Lib.hid hex
    obtain ⟨B, hB⟩ : ∃ B, bck l t = B := ⟨_, rfl⟩
    obtain ⟨D, hD⟩ : ∃ B, ahd l t = B := ⟨_, rfl⟩
    obtain ⟨u, hu⟩ : ∃ B, bv l t = B := ⟨_, rfl⟩
    obtain ⟨v, hv⟩ : ∃ B, av l t = B := ⟨_, rfl⟩
    have b1 := bck_in HS.out t0 t1
    have d1 := ahd_in HS.out t0 t1
    rw [hB] at b1
    rw [hD] at d1
    obtain ⟨b0, b1⟩ := b1
    obtain ⟨d0, d1⟩ := d1
    have HV : Hid (val l r q t = if r = 1 then (if B ≤ q then (u, true) else (0, false))
      else if r = 2 then (if B ≤ D ∧ B ≤ q then (u, true) else if D < B ∧ D ≤ q then (v, true) else (0, false))
      else if r = 3 then (if B ≤ q ∧ D ≤ q then (hup (u * D + v * B) (B + D), true) else (0, false))
      else (0, false)) := by
      show _ = _
      unfold val
      rw [hi, hL, if_neg hex, hB, hD, hu, hv]
    have HU : Hid ((0 < i → tm l (i - 1) = t - B ∧ vl l (i - 1) = u) ∧ (i = 0 → B = 1099511627777 ∧ u = 0) ∧ (i < n → tm l i = t + D ∧ vl l i = v) ∧ (i = n → D = 1099511627777 ∧ v = 0)) := by
      refine ⟨fun h0 => ?_, fun h0 => ?_, fun h0 => ?_, fun h0 => ?_⟩
      · rw [← hB, ← hu]; unfold bck bv; rw [hi, if_pos h0, if_pos h0]; omega
      · rw [← hB, ← hu]; unfold bck bv far; rw [hi, if_neg (by omega), if_neg (by omega)]; omega
      · rw [← hD, ← hv]; unfold ahd av; rw [hi, hL, if_pos h0, if_pos h0]; omega
      · rw [← hD, ← hv]; unfold ahd av far; rw [hi, hL, if_neg (by omega), if_neg (by omega)]; omega
    have uin : -1000 ≤ u ∧ u ≤ 1000 := by
      rcases Nat.lt_or_ge 0 i with h0 | h0
      · have a := HU.out.1 h0; have b := HS.out.1 (i - 1) (by omega); omega
      · have a := HU.out.2.1 (by omega); omega
    have vin : -1000 ≤ v ∧ v ≤ 1000 := by
      rcases Nat.lt_or_ge i n with h0 | h0
      · have a := HU.out.2.2.1 h0; have b := HS.out.1 i (by omega); omega
      · have a := HU.out.2.2.2 (by omega); omega
    obtain ⟨u0, u1⟩ := uin
    obtain ⟨v0, v1⟩ := vin
    have p1 := mul_in (a := u) (b := D) (x := 1000) (y := 1099511627777) (by omega) (by omega) d0 d1 (by decide)
    have p2 := mul_in (a := v) (b := B) (x := 1000) (y := 1099511627777) (by omega) (by omega) (by omega) b1 (by decide)
    have HF : Hid (∀ w, Calls Try.prog 56 #[.int .i64 (u * D + v * B), .int .i64 (B + D)] w fun e w' => e = .returned (.int .i64 (hup (u * D + v * B) (B + D))) ∧ w = w') := fun w => Un.half_any _ _ (by omega) (by omega) (by omega) (by omega) w
    obtain ⟨P, hP⟩ : ∃ P, u * D = P := ⟨_, rfl⟩
    obtain ⟨Q, hQ⟩ : ∃ P, v * B = P := ⟨_, rfl⟩
    rw [hP] at p1
    rw [hQ] at p2
    rw [hP, hQ] at HF HV
    obtain ⟨R, hR⟩ : ∃ R, hup (P + Q) (B + D) = R := ⟨_, rfl⟩
    rw [hR] at HF HV
    obtain ⟨p10, p11⟩ := p1
    obtain ⟨p20, p21⟩ := p2
    have HPQ := Lib.hid (And.intro hP hQ)
    have wP : IntKind.i64.wrap P = P := IntWalk.i64_in _ (by omega)
    have wQ : IntKind.i64.wrap Q = Q := IntWalk.i64_in _ (by omega)
    have wP2 : wrap64 P = P := IntWalk.wrap64_in _ (by omega)
    have wQ2 : wrap64 Q = Q := IntWalk.wrap64_in _ (by omega)
    clear hd hex hi hB hD hu hv hR
    go_enter Try.func41, Try.ntmps41
    go_wp2_with fail
    go_at_call 53
    refine (HSR.out _ (Bel.rf.al _)).mono ?_
    rintro e w1 ⟨rfl, hb⟩
    have HB : Hid (Bel w w1) := (Bel.rf.al _).tr hb
    have KB := Bk.bel (Bk.nw w 46 #[.int .i64 f, .int .i64 s, .int .i64 c, .int .i64 r, .int .i64 q]) hb
    have hsz : w.heap.size < w1.heap.size := KB.lt
    have k3 := KB.cell 3
    have k4 := KB.cell 4
    simp at k3 k4
    have HK := Lib.hid KB
    clear hb KB
    have HK3 := Lib.hid k3
    have HK4 := Lib.hid k4
    rcases Nat.lt_or_ge 0 i with hi0 | hi0
    · obtain ⟨g, hA, hab, hac⟩ := (H1.out.bel HB.out).2 (by omega)
      subst hA
      obtain ⟨p, hp⟩ : ∃ p, i - 1 = p := ⟨_, rfl⟩
      obtain ⟨c1, c2⟩ := hac p (by omega)
      have HAC := Lib.hid hac
      obtain ⟨e1, e2⟩ := HU.out.1 hi0
      rw [hp] at e1 e2
      rw [e2] at c2
      obtain ⟨x, hx⟩ : ∃ x, tm l p = x := ⟨_, rfl⟩
      rw [hx] at c1 e1
      have hxB : t - x = B := by omega
      have wB : IntKind.i64.wrap B = B := IntWalk.i64_in _ (by omega)
      have wB2 : wrap64 B = B := IntWalk.wrap64_in _ (by omega)
      have ip : (i : Int) - 1 = (p : Int) := by omega
      have i0 : (0 : Int) < (i : Int) := by omega
      have pn : (p : Int) < (n : Int) := by omega
      have hne : g ≠ w1.heap.size := by omega
      have hne2 : g ≠ w1.heap.size + 1 := by omega
      clear e1 e2 hx hp hac
      go_wp2
      generalize hW : ((w1.alloc (Obj.cells #[Value.int IntKind.i64 0, Value.int IntKind.i64 0] 40)).alloc (Obj.cells #[Value.int IntKind.i64 0, Value.int IntKind.i64 0] 40)) = W
      have HBW : Hid (Bel w1 W) := by show Bel _ _; rw [← hW]; exact (Bel.rf.al _).al _
      have K1 : Bk W w1.heap.size 40 #[.int .i64 0, .int .i64 0] := by rw [← hW]; exact (Bk.nw w1 _ _).al _
      have K2 : Bk W (w1.heap.size + 1) 40 #[.int .i64 0, .int .i64 0] := by rw [← hW]; exact Bk.nq _ _ _ (by simp)
      clear hW
      replace c1 := HBW.out.kp c1
      replace c2 := HBW.out.kp c2
      replace k3 := HBW.out.kp k3
      replace k4 := HBW.out.kp k4
      have f0 := K1.fr 0
      have f1 := K1.fr 1
      have z0 := K1.cell 0
      have z1 := K1.cell 1
      simp at z0 z1
      clear k3 k4
      go_wp2
      go_region
      rcases Nat.lt_or_ge i n with hin | hin
      · have ii : (i : Int) < (n : Int) := by omega
        go_wp2
        generalize hX : ((W.setCell { block := w1.heap.size, off := 0 } (Value.int IntKind.i64 x)).setCell { block := w1.heap.size, off := 1 } (Value.int IntKind.i64 u)).drew = X
        have HBX : Hid (Bel w1 X) := by show Bel _ _; rw [← hX]; exact (((HBW.out).st (p := { block := w1.heap.size, off := 0 }) (by simp) _).st (p := { block := w1.heap.size, off := 1 }) (by simp) _).drw
        have L1 : Bk X w1.heap.size 40 #[.int .i64 x, .int .i64 u] := by rw [← hX]; exact ((K1.st 0 _).st 1 _).drw
        have L2 : Bk X (w1.heap.size + 1) 40 #[.int .i64 0, .int .i64 0] := by rw [← hX]; exact ((K2.far (p := { block := w1.heap.size, off := 0 }) (by simp) _).far (p := { block := w1.heap.size, off := 1 }) (by simp) _).drw
        clear hX K1 K2 c1 c2 f0 f1 z0 z1
        have k3 := HBX.out.kp (p := ⟨w.heap.size, 3, none⟩) (HK3.out)
        have k4 := HBX.out.kp (p := ⟨w.heap.size, 4, none⟩) (HK4.out)
        have l1 := L1.cell 1
        simp at l1
        obtain ⟨d1c, d2c⟩ := HAC.out i hin
        obtain ⟨e3, e4⟩ := HU.out.2.2.1 hin
        rw [e4] at d2c
        obtain ⟨y, hy⟩ : ∃ x, tm l i = x := ⟨_, rfl⟩
        rw [hy] at d1c e3
        have hyD : y - t = D := by omega
        have wD : IntKind.i64.wrap D = D := IntWalk.i64_in _ (by omega)
        have wD2 : wrap64 D = D := IntWalk.wrap64_in _ (by omega)
        clear e3 e4 hy
        replace d1c := HBX.out.kp d1c
        replace d2c := HBX.out.kp d2c
        have f0 := L2.fr 0
        have f1 := L2.fr 1
        have z0 := L2.cell 0
        have z1 := L2.cell 1
        simp at z0 z1
        clear k3 k4
        go_wp2
        go_region
        generalize hX : ((X.setCell { block := w1.heap.size + 1, off := 0 } (Value.int IntKind.i64 y)).setCell { block := w1.heap.size + 1, off := 1 } (Value.int IntKind.i64 v)).drew = Y
        have HBY : Hid (Bel w1 Y) := by show Bel _ _; rw [← hX]; exact (((HBX.out).st (p := { block := w1.heap.size + 1, off := 0 }) (by simp) _).st (p := { block := w1.heap.size + 1, off := 1 }) (by simp) _).drw
        have M1 : Bk Y w1.heap.size 40 #[.int .i64 x, .int .i64 u] := by rw [← hX]; exact ((L1.far (p := { block := w1.heap.size + 1, off := 0 }) (by simp) _).far (p := { block := w1.heap.size + 1, off := 1 }) (by simp) _).drw
        have M2 : Bk Y (w1.heap.size + 1) 40 #[.int .i64 y, .int .i64 v] := by rw [← hX]; exact ((L2.st 0 _).st 1 _).drw
        clear hX L1 L2 d1c d2c f0 f1 z0 z1 l1
        have k3 := HBY.out.kp (p := ⟨w.heap.size, 3, none⟩) (HK3.out)
        have k4 := HBY.out.kp (p := ⟨w.heap.size, 4, none⟩) (HK4.out)
        have l1 := M1.cell 1
        have l2 := M2.cell 1
        simp at l1 l2
        clear M1 M2
        rcases (show r = 1 ∨ r = 2 ∨ r = 3 by omega) with rfl | rfl | rfl
        · rcases Int.lt_or_le q B with hqB | hqB
          · have gq : ¬ B ≤ q := by omega
            first
            | (exfalso; omega)
            | (go_wp2
               go_ret2
               exact ⟨res_eq (HV.out.trans (by rw [if_pos trivial, if_neg (by omega)])), by first | exact HB.out.tr HBY.out | exact (HB.out.tr HBY.out).drwN _ | exact (HB.out.tr HBY.out).drw⟩)
          · first
            | (exfalso; omega)
            | (go_wp2
               go_ret2
               exact ⟨res_eq (HV.out.trans (by rw [if_pos trivial, if_pos (by omega)])), by first | exact HB.out.tr HBY.out | exact (HB.out.tr HBY.out).drwN _ | exact (HB.out.tr HBY.out).drw⟩)
        · rcases Int.lt_or_le D B with hDB | hDB
          · have gd : ¬ B ≤ D := by omega
            rcases Int.lt_or_le q D with hqD | hqD
            · have gq : ¬ D ≤ q := by omega
              first
              | (exfalso; omega)
              | (go_wp2
                 go_ret2
                 exact ⟨res_eq (HV.out.trans (by rw [if_neg (by decide), if_pos trivial, if_neg (by omega), if_neg (by omega)])), by first | exact HB.out.tr HBY.out | exact (HB.out.tr HBY.out).drwN _ | exact (HB.out.tr HBY.out).drw⟩)
            · first
              | (exfalso; omega)
              | (go_wp2
                 go_ret2
                 exact ⟨res_eq (HV.out.trans (by rw [if_neg (by decide), if_pos trivial, if_neg (by omega), if_pos (by omega)])), by first | exact HB.out.tr HBY.out | exact (HB.out.tr HBY.out).drwN _ | exact (HB.out.tr HBY.out).drw⟩)
          · have gd : ¬ D < B := by omega
            rcases Int.lt_or_le q B with hqB | hqB
            · have gq : ¬ B ≤ q := by omega
              first
              | (exfalso; omega)
              | (go_wp2
                 go_ret2
                 exact ⟨res_eq (HV.out.trans (by rw [if_neg (by decide), if_pos trivial, if_neg (by omega), if_neg (by omega)])), by first | exact HB.out.tr HBY.out | exact (HB.out.tr HBY.out).drwN _ | exact (HB.out.tr HBY.out).drw⟩)
            · first
              | (exfalso; omega)
              | (go_wp2
                 go_ret2
                 exact ⟨res_eq (HV.out.trans (by rw [if_neg (by decide), if_pos trivial, if_pos (by omega)])), by first | exact HB.out.tr HBY.out | exact (HB.out.tr HBY.out).drwN _ | exact (HB.out.tr HBY.out).drw⟩)
        · rcases Int.lt_or_le q B with hqB | hqB
          · have gq : ¬ B ≤ q := by omega
            first
            | (exfalso; omega)
            | (go_wp2
               go_ret2
               exact ⟨res_eq (HV.out.trans (by rw [if_neg (by decide), if_neg (by decide), if_pos trivial, if_neg (by omega)])), by first | exact HB.out.tr HBY.out | exact (HB.out.tr HBY.out).drwN _ | exact (HB.out.tr HBY.out).drw⟩)
          · rcases Int.lt_or_le q D with hqD | hqD
            · have gq : ¬ D ≤ q := by omega
              first
              | (exfalso; omega)
              | (go_wp2
                 go_ret2
                 exact ⟨res_eq (HV.out.trans (by rw [if_neg (by decide), if_neg (by decide), if_pos trivial, if_neg (by omega)])), by first | exact HB.out.tr HBY.out | exact (HB.out.tr HBY.out).drwN _ | exact (HB.out.tr HBY.out).drw⟩)
            · have m1 := HPQ.out.1
              have m2 := HPQ.out.2
              go_wp2_with (go_at_call 56; refine (HF.out _).mono ?_; rintro e w9 ⟨rfl, rfl⟩)
              go_ret2
              exact ⟨res_eq (HV.out.trans (by rw [if_neg (by decide), if_neg (by decide), if_pos trivial, if_pos (by omega)])), by first | exact HB.out.tr HBY.out | exact (HB.out.tr HBY.out).drwN _ | exact (HB.out.tr HBY.out).drw⟩
      · obtain rfl : i = n := by omega
        have ii : ¬ (i : Int) < (i : Int) := by omega
        obtain ⟨rfl, rfl⟩ := HU.out.2.2.2 rfl
        generalize hX : ((W.setCell { block := w1.heap.size, off := 0 } (Value.int IntKind.i64 x)).setCell { block := w1.heap.size, off := 1 } (Value.int IntKind.i64 u)).drew = X
        have HBX : Hid (Bel w1 X) := by show Bel _ _; rw [← hX]; exact (((HBW.out).st (p := { block := w1.heap.size, off := 0 }) (by simp) _).st (p := { block := w1.heap.size, off := 1 }) (by simp) _).drw
        have L1 : Bk X w1.heap.size 40 #[.int .i64 x, .int .i64 u] := by rw [← hX]; exact ((K1.st 0 _).st 1 _).drw
        have L2 : Bk X (w1.heap.size + 1) 40 #[.int .i64 0, .int .i64 0] := by rw [← hX]; exact ((K2.far (p := { block := w1.heap.size, off := 0 }) (by simp) _).far (p := { block := w1.heap.size, off := 1 }) (by simp) _).drw
        clear hX K1 K2 c1 c2 f0 f1 z0 z1
        have k3 := HBX.out.kp (p := ⟨w.heap.size, 3, none⟩) (HK3.out)
        have k4 := HBX.out.kp (p := ⟨w.heap.size, 4, none⟩) (HK4.out)
        have l1 := L1.cell 1
        simp at l1
        have l2 := L2.cell 1
        simp at l2
        have HBY := HBX
        clear L1 L2
        rcases (show r = 1 ∨ r = 2 ∨ r = 3 by omega) with rfl | rfl | rfl
        · rcases Int.lt_or_le q B with hqB | hqB
          · have gq : ¬ B ≤ q := by omega
            first
            | (exfalso; omega)
            | (go_wp2
               go_ret2
               exact ⟨res_eq (HV.out.trans (by rw [if_pos trivial, if_neg (by omega)])), by first | exact HB.out.tr HBY.out | exact (HB.out.tr HBY.out).drwN _ | exact (HB.out.tr HBY.out).drw⟩)
          · first
            | (exfalso; omega)
            | (go_wp2
               go_ret2
               exact ⟨res_eq (HV.out.trans (by rw [if_pos trivial, if_pos (by omega)])), by first | exact HB.out.tr HBY.out | exact (HB.out.tr HBY.out).drwN _ | exact (HB.out.tr HBY.out).drw⟩)
        · rcases Int.lt_or_le 1099511627777 B with hDB | hDB
          · have gd : ¬ B ≤ 1099511627777 := by omega
            rcases Int.lt_or_le q 1099511627777 with hqD | hqD
            · have gq : ¬ 1099511627777 ≤ q := by omega
              first
              | (exfalso; omega)
              | (go_wp2
                 go_ret2
                 exact ⟨res_eq (HV.out.trans (by rw [if_neg (by decide), if_pos trivial, if_neg (by omega), if_neg (by omega)])), by first | exact HB.out.tr HBY.out | exact (HB.out.tr HBY.out).drwN _ | exact (HB.out.tr HBY.out).drw⟩)
            · first
              | (exfalso; omega)
              | (go_wp2
                 go_ret2
                 exact ⟨res_eq (HV.out.trans (by rw [if_neg (by decide), if_pos trivial, if_neg (by omega), if_pos (by omega)])), by first | exact HB.out.tr HBY.out | exact (HB.out.tr HBY.out).drwN _ | exact (HB.out.tr HBY.out).drw⟩)
          · have gd : ¬ 1099511627777 < B := by omega
            rcases Int.lt_or_le q B with hqB | hqB
            · have gq : ¬ B ≤ q := by omega
              first
              | (exfalso; omega)
              | (go_wp2
                 go_ret2
                 exact ⟨res_eq (HV.out.trans (by rw [if_neg (by decide), if_pos trivial, if_neg (by omega), if_neg (by omega)])), by first | exact HB.out.tr HBY.out | exact (HB.out.tr HBY.out).drwN _ | exact (HB.out.tr HBY.out).drw⟩)
            · first
              | (exfalso; omega)
              | (go_wp2
                 go_ret2
                 exact ⟨res_eq (HV.out.trans (by rw [if_neg (by decide), if_pos trivial, if_pos (by omega)])), by first | exact HB.out.tr HBY.out | exact (HB.out.tr HBY.out).drwN _ | exact (HB.out.tr HBY.out).drw⟩)
        · rcases Int.lt_or_le q B with hqB | hqB
          · have gq : ¬ B ≤ q := by omega
            first
            | (exfalso; omega)
            | (go_wp2
               go_ret2
               exact ⟨res_eq (HV.out.trans (by rw [if_neg (by decide), if_neg (by decide), if_pos trivial, if_neg (by omega)])), by first | exact HB.out.tr HBY.out | exact (HB.out.tr HBY.out).drwN _ | exact (HB.out.tr HBY.out).drw⟩)
          · rcases Int.lt_or_le q 1099511627777 with hqD | hqD
            · have gq : ¬ 1099511627777 ≤ q := by omega
              first
              | (exfalso; omega)
              | (go_wp2
                 go_ret2
                 exact ⟨res_eq (HV.out.trans (by rw [if_neg (by decide), if_neg (by decide), if_pos trivial, if_neg (by omega)])), by first | exact HB.out.tr HBY.out | exact (HB.out.tr HBY.out).drwN _ | exact (HB.out.tr HBY.out).drw⟩)
            · exfalso; omega
    · obtain rfl : i = 0 := by omega
      obtain ⟨rfl, rfl⟩ := HU.out.2.1 rfl
      rcases Nat.lt_or_ge 0 n with hin | hin
      · have ii : (0 : Int) < (n : Int) := by omega
        obtain ⟨g, hA, hab, hac⟩ := (H1.out.bel HB.out).2 (by omega)
        subst hA
        obtain ⟨d1c, d2c⟩ := hac 0 (by omega)
        obtain ⟨e3, e4⟩ := HU.out.2.2.1 (by omega)
        rw [e4] at d2c
        obtain ⟨y, hy⟩ : ∃ x, tm l 0 = x := ⟨_, rfl⟩
        rw [hy] at d1c e3
        have hyD : y - t = D := by omega
        have wD : IntKind.i64.wrap D = D := IntWalk.i64_in _ (by omega)
        have wD2 : wrap64 D = D := IntWalk.wrap64_in _ (by omega)
        have hne : g ≠ w1.heap.size := by omega
        have hne2 : g ≠ w1.heap.size + 1 := by omega
        clear e3 e4 hy hac
        go_wp2
        generalize hW : ((w1.alloc (Obj.cells #[Value.int IntKind.i64 0, Value.int IntKind.i64 0] 40)).alloc (Obj.cells #[Value.int IntKind.i64 0, Value.int IntKind.i64 0] 40)) = W
        have HBW : Hid (Bel w1 W) := by show Bel _ _; rw [← hW]; exact (Bel.rf.al _).al _
        have K1 : Bk W w1.heap.size 40 #[.int .i64 0, .int .i64 0] := by rw [← hW]; exact (Bk.nw w1 _ _).al _
        have K2 : Bk W (w1.heap.size + 1) 40 #[.int .i64 0, .int .i64 0] := by rw [← hW]; exact Bk.nq _ _ _ (by simp)
        clear hW
        rw [Nat.zero_mul] at d1c
        replace d1c := HBW.out.kp d1c
        replace d2c := HBW.out.kp d2c
        replace k3 := HBW.out.kp k3
        replace k4 := HBW.out.kp k4
        have f0 := K2.fr 0
        have f1 := K2.fr 1
        have z0 := K2.cell 0
        have z1 := K2.cell 1
        simp at z0 z1
        clear k3 k4
        go_wp2
        go_region
        generalize hX : ((W.setCell { block := w1.heap.size + 1, off := 0 } (Value.int IntKind.i64 y)).setCell { block := w1.heap.size + 1, off := 1 } (Value.int IntKind.i64 v)).drew = Y
        have HBY : Hid (Bel w1 Y) := by show Bel _ _; rw [← hX]; exact (((HBW.out).st (p := { block := w1.heap.size + 1, off := 0 }) (by simp) _).st (p := { block := w1.heap.size + 1, off := 1 }) (by simp) _).drw
        have M1 : Bk Y w1.heap.size 40 #[.int .i64 0, .int .i64 0] := by rw [← hX]; exact ((K1.far (p := { block := w1.heap.size + 1, off := 0 }) (by simp) _).far (p := { block := w1.heap.size + 1, off := 1 }) (by simp) _).drw
        have M2 : Bk Y (w1.heap.size + 1) 40 #[.int .i64 y, .int .i64 v] := by rw [← hX]; exact ((K2.st 0 _).st 1 _).drw
        clear hX K1 K2 d1c d2c f0 f1 z0 z1
        have k3 := HBY.out.kp (p := ⟨w.heap.size, 3, none⟩) (HK3.out)
        have k4 := HBY.out.kp (p := ⟨w.heap.size, 4, none⟩) (HK4.out)
        have l1 := M1.cell 1
        have l2 := M2.cell 1
        simp at l1 l2
        clear M1 M2
        rcases (show r = 1 ∨ r = 2 ∨ r = 3 by omega) with rfl | rfl | rfl
        · rcases Int.lt_or_le q 1099511627777 with hqB | hqB
          · have gq : ¬ 1099511627777 ≤ q := by omega
            first
            | (exfalso; omega)
            | (go_wp2
               go_ret2
               exact ⟨res_eq (HV.out.trans (by rw [if_pos trivial, if_neg (by omega)])), by first | exact HB.out.tr HBY.out | exact (HB.out.tr HBY.out).drwN _ | exact (HB.out.tr HBY.out).drw⟩)
          · first
            | (exfalso; omega)
            | (go_wp2
               go_ret2
               exact ⟨res_eq (HV.out.trans (by rw [if_pos trivial, if_pos (by omega)])), by first | exact HB.out.tr HBY.out | exact (HB.out.tr HBY.out).drwN _ | exact (HB.out.tr HBY.out).drw⟩)
        · rcases Int.lt_or_le D 1099511627777 with hDB | hDB
          · have gd : ¬ 1099511627777 ≤ D := by omega
            rcases Int.lt_or_le q D with hqD | hqD
            · have gq : ¬ D ≤ q := by omega
              first
              | (exfalso; omega)
              | (go_wp2
                 go_ret2
                 exact ⟨res_eq (HV.out.trans (by rw [if_neg (by decide), if_pos trivial, if_neg (by omega), if_neg (by omega)])), by first | exact HB.out.tr HBY.out | exact (HB.out.tr HBY.out).drwN _ | exact (HB.out.tr HBY.out).drw⟩)
            · first
              | (exfalso; omega)
              | (go_wp2
                 go_ret2
                 exact ⟨res_eq (HV.out.trans (by rw [if_neg (by decide), if_pos trivial, if_neg (by omega), if_pos (by omega)])), by first | exact HB.out.tr HBY.out | exact (HB.out.tr HBY.out).drwN _ | exact (HB.out.tr HBY.out).drw⟩)
          · have gd : ¬ D < 1099511627777 := by omega
            rcases Int.lt_or_le q 1099511627777 with hqB | hqB
            · have gq : ¬ 1099511627777 ≤ q := by omega
              first
              | (exfalso; omega)
              | (go_wp2
                 go_ret2
                 exact ⟨res_eq (HV.out.trans (by rw [if_neg (by decide), if_pos trivial, if_neg (by omega), if_neg (by omega)])), by first | exact HB.out.tr HBY.out | exact (HB.out.tr HBY.out).drwN _ | exact (HB.out.tr HBY.out).drw⟩)
            · first
              | (exfalso; omega)
              | (go_wp2
                 go_ret2
                 exact ⟨res_eq (HV.out.trans (by rw [if_neg (by decide), if_pos trivial, if_pos (by omega)])), by first | exact HB.out.tr HBY.out | exact (HB.out.tr HBY.out).drwN _ | exact (HB.out.tr HBY.out).drw⟩)
        · rcases Int.lt_or_le q 1099511627777 with hqB | hqB
          · have gq : ¬ 1099511627777 ≤ q := by omega
            first
            | (exfalso; omega)
            | (go_wp2
               go_ret2
               exact ⟨res_eq (HV.out.trans (by rw [if_neg (by decide), if_neg (by decide), if_pos trivial, if_neg (by omega)])), by first | exact HB.out.tr HBY.out | exact (HB.out.tr HBY.out).drwN _ | exact (HB.out.tr HBY.out).drw⟩)
          · rcases Int.lt_or_le q D with hqD | hqD
            · have gq : ¬ D ≤ q := by omega
              first
              | (exfalso; omega)
              | (go_wp2
                 go_ret2
                 exact ⟨res_eq (HV.out.trans (by rw [if_neg (by decide), if_neg (by decide), if_pos trivial, if_neg (by omega)])), by first | exact HB.out.tr HBY.out | exact (HB.out.tr HBY.out).drwN _ | exact (HB.out.tr HBY.out).drw⟩)
            · exfalso; omega
      · obtain rfl : n = 0 := by omega
        obtain ⟨rfl, rfl⟩ := HU.out.2.2.2 rfl
        have k3' : ∀ o p, ((w1.alloc o).alloc p).cell? ⟨w.heap.size, 3, none⟩ = some (.int .i64 r) := fun o p => kp_al (kp_al k3 o) p
        have k4' : ∀ o p, ((w1.alloc o).alloc p).cell? ⟨w.heap.size, 4, none⟩ = some (.int .i64 q) := fun o p => kp_al (kp_al k4 o) p
        rcases (show r = 1 ∨ r = 2 ∨ r = 3 by omega) with rfl | rfl | rfl
        · rcases Int.lt_or_le q 1099511627777 with hqB | hqB
          · have gq : ¬ 1099511627777 ≤ q := by omega
            first
            | (exfalso; omega)
            | (go_wp2
               go_ret2
               exact ⟨res_eq (HV.out.trans (by rw [if_pos trivial, if_neg (by omega)])), by first | exact (HB.out.al _).al _ | exact ((HB.out.al _).al _).drwN _⟩)
          · first
            | (exfalso; omega)
            | (go_wp2
               go_ret2
               exact ⟨res_eq (HV.out.trans (by rw [if_pos trivial, if_pos (by omega)])), by first | exact (HB.out.al _).al _ | exact ((HB.out.al _).al _).drwN _⟩)
        · rcases Int.lt_or_le 1099511627777 1099511627777 with hDB | hDB
          · have gd : ¬ 1099511627777 ≤ 1099511627777 := by omega
            rcases Int.lt_or_le q 1099511627777 with hqD | hqD
            · have gq : ¬ 1099511627777 ≤ q := by omega
              first
              | (exfalso; omega)
              | (go_wp2
                 go_ret2
                 exact ⟨res_eq (HV.out.trans (by rw [if_neg (by decide), if_pos trivial, if_neg (by omega), if_neg (by omega)])), by first | exact (HB.out.al _).al _ | exact ((HB.out.al _).al _).drwN _⟩)
            · first
              | (exfalso; omega)
              | (go_wp2
                 go_ret2
                 exact ⟨res_eq (HV.out.trans (by rw [if_neg (by decide), if_pos trivial, if_neg (by omega), if_pos (by omega)])), by first | exact (HB.out.al _).al _ | exact ((HB.out.al _).al _).drwN _⟩)
          · have gd : ¬ 1099511627777 < 1099511627777 := by omega
            rcases Int.lt_or_le q 1099511627777 with hqB | hqB
            · have gq : ¬ 1099511627777 ≤ q := by omega
              first
              | (exfalso; omega)
              | (go_wp2
                 go_ret2
                 exact ⟨res_eq (HV.out.trans (by rw [if_neg (by decide), if_pos trivial, if_neg (by omega), if_neg (by omega)])), by first | exact (HB.out.al _).al _ | exact ((HB.out.al _).al _).drwN _⟩)
            · first
              | (exfalso; omega)
              | (go_wp2
                 go_ret2
                 exact ⟨res_eq (HV.out.trans (by rw [if_neg (by decide), if_pos trivial, if_pos (by omega)])), by first | exact (HB.out.al _).al _ | exact ((HB.out.al _).al _).drwN _⟩)
        · rcases Int.lt_or_le q 1099511627777 with hqB | hqB
          · have gq : ¬ 1099511627777 ≤ q := by omega
            first
            | (exfalso; omega)
            | (go_wp2
               go_ret2
               exact ⟨res_eq (HV.out.trans (by rw [if_neg (by decide), if_neg (by decide), if_pos trivial, if_neg (by omega)])), by first | exact (HB.out.al _).al _ | exact ((HB.out.al _).al _).drwN _⟩)
          · rcases Int.lt_or_le q 1099511627777 with hqD | hqD
            · have gq : ¬ 1099511627777 ≤ q := by omega
              first
              | (exfalso; omega)
              | (go_wp2
                 go_ret2
                 exact ⟨res_eq (HV.out.trans (by rw [if_neg (by decide), if_neg (by decide), if_pos trivial, if_neg (by omega)])), by first | exact (HB.out.al _).al _ | exact ((HB.out.al _).al _).drwN _⟩)
            · exfalso; omega
end Go.Proofs.Ytdkibffbaamkkaa.Rg
