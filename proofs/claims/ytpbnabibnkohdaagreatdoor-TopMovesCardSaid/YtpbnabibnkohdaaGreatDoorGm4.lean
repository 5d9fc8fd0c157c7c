/- Merged: Res3 Asc Res4 Res5 ZiS AppS SerMath Ser1 Ser4 Ser5 Ser2 Ser3 Ser7 Bytes BitMath IntMath CodecFold CodecPut PackMath CrcMath SealM SgRep. -/
import Derived.Test.YtpbnabibnkohdaaGreatDoorRows
import Derived.Test.YtpbnabibnkohdaaGreatDoorGm1
import Derived.Test.YtpbnabibnkohdaaGreatDoorGm2
import Derived.Test.YtpbnabibnkohdaaGreatDoorGm3
import Derived.Deep.RegionLaw
import Derived.Maps.AppendAt
import Derived.Lib.Hide
import Derived.BigQuiet
import Derived.Deep.RegionHeld3
import Derived.RangeFuncBox
import Derived.RangeFuncLeaves
import Derived.RangeFuncNested
import Derived.RangeFuncBound
import Derived.RangeFuncCalls
import Derived.Shelf.Abstract
import Derived.Shelf.RegionOpen
import Derived.OwnWalkIn
import Derived.TacticsInMore
import Derived.LoopNIn
import Derived.LoopIn
import Derived.Laws.CopyOwn
import Derived.OwnWalk
import Derived.Laws.MakeOwn
import Derived.Laws.OwnMore
import Derived.Laws.AppendOwnNone
import Derived.Deep.DeepCutAuto
import Derived.Deep.MidRow
import Derived.Deep.CutBlock
import Derived.Laws.Entries
import Derived.IntWalk
import Derived.Lib.EndianBits
import Derived.Below
import Derived.WalkLawsBesides
import Derived.WalkSpells
import Derived.Outline
import Derived.Deep.QuietTactic
import Derived.RegionTactic
import Derived.Laws.Bits64b
import Derived.Laws.MathBits
namespace Go.Proofs.YtpbnabibnkohdaaGreatDoor.Rg
open Go.ChangeShapes Go.WideShapes Go.RowKit Wo Sr Wi Rm
set_option linter.unusedVariables false
theorem res_eq {x : Int × Bool} {a : Int} {b : Bool} (h : x = (a, b)) : Ending.returned (.tuple #[.int .i64 a, .bool b]) = .returned (.tuple #[.int .i64 x.1, .bool x.2]) := by rw [h]
theorem al2_1 (w : World) (o p : Obj) {k : Nat} {t : TypeId} {cs : Array Value} (h : Bk w k t cs) : Bk ((w.alloc o).alloc p) k t cs := (h.al o).al p
set_option maxHeartbeats 8000000 in
set_option maxRecDepth 100000 in
theorem value_ok (A : Option Addr) (ca n : Nat) (l : List Rp) (hn : n ≤ 2000) (hs : Asc l) (f s c r q t : Int) (t0 : 0 ≤ t) (t1 : t ≤ 1099511627776) (r0 : 1 ≤ r) (r1 : r ≤ 3) (q0 : 0 ≤ q) (q1 : q ≤ 1099511627776) (w : World) (h : Zr w A n l) :
    Calls Tryz.prog 62 #[.slice A n ca, gv f s c r q, .int .i64 t] w fun e w' => e = .returned (.tuple #[.int .i64 (val l r q t).1, .bool (val l r q t).2]) ∧ Bel w w' := by
  have H1 := Lib.hid h
  have HS := Lib.hid hs
  have ni : (n : Int) ≤ 2000 := by omega
  have hL := h.1
  obtain ⟨i, hi⟩ : ∃ i, lb l t = i := ⟨_, rfl⟩
  have hile : i ≤ n := by have := lb_le l t; omega
  have HSR : Hid (∀ W, Bel w W → Calls Tryz.prog 88 #[.slice A n ca, .int .i64 t, .func (.func 89) #[] #[]] W fun e w' => e = .returned (.tuple #[.int .i64 (i : Int), .bool (decide (i < n ∧ tm l i = t))]) ∧ Bel W w') := fun W hW => by
    have := search_ok A ca n l hn HS.out t W (H1.out.bel hW)
    rwa [hi] at this
  unfold gv
  clear h hs
  rcases Classical.em (i < n ∧ tm l i = t) with hex | hex
  · have HV : Hid (val l r q t = (vl l i, true)) := by
      show _ = _
      unfold val
      rw [hi, hL, if_pos hex]
    have hd : decide (i < n ∧ tm l i = t) = true := decide_eq_true hex
    rw [hd] at HSR
    have HEX := Lib.hid hex
    have ii : (i : Int) < (n : Int) := by omega
    clear hd hex hi
    go_enter Tryz.func62, Tryz.ntmps62
    go_wp2_with fail
    go_at_call 88
    refine (HSR.out _ (Bel.rf.al _)).mono ?_
    rintro e w1 ⟨rfl, hb⟩
    have HB : Hid (Bel w w1) := (Bel.rf.al _).tr hb
    clear hb
    obtain ⟨g, rfl, hab, hac⟩ := (H1.out.bel HB.out).2 (by omega)
    obtain ⟨c1, c2⟩ := hac i (by omega)
    clear hab hac
    go_wp2
    go_ret2
    exact ⟨res_eq HV.out, by first | exact HB.out | exact HB.out.drwN _⟩
  · have hd : decide (i < n ∧ tm l i = t) = false := decide_eq_false hex
    rw [hd] at HSR
    have HEX := Lib.hid hex
    obtain ⟨B, hB⟩ : ∃ B, bck l t = B := ⟨_, rfl⟩
    obtain ⟨D, hD⟩ : ∃ B, ahd l t = B := ⟨_, rfl⟩
    obtain ⟨u, hu⟩ : ∃ B, bv l t = B := ⟨_, rfl⟩
    obtain ⟨v, hv⟩ : ∃ B, av l t = B := ⟨_, rfl⟩
    have b1 := bck_in HS.out t0 t1
    have d1 := ahd_in HS.out t0 t1
    rw [hB] at b1
    rw [hD] at d1
    obtain ⟨b0, b1⟩ := b1
    obtain ⟨d0, d1⟩ := d1
    have HV : Hid (val l r q t = if r = 1 then (if B ≤ q then (u, true) else (0, false))
      else if r = 2 then (if B ≤ D ∧ B ≤ q then (u, true) else if D < B ∧ D ≤ q then (v, true) else (0, false))
      else if r = 3 then (if B ≤ q ∧ D ≤ q then (hup (u * D + v * B) (B + D), true) else (0, false))
      else (0, false)) := by
      show _ = _
      unfold val
      rw [hi, hL, if_neg hex, hB, hD, hu, hv]
    have HU : Hid ((0 < i → tm l (i - 1) = t - B ∧ vl l (i - 1) = u) ∧ (i = 0 → B = 1099511627777 ∧ u = 0) ∧ (i < n → tm l i = t + D ∧ vl l i = v) ∧ (i = n → D = 1099511627777 ∧ v = 0)) := by
      refine ⟨fun h0 => ?_, fun h0 => ?_, fun h0 => ?_, fun h0 => ?_⟩
      · rw [← hB, ← hu]; unfold bck bv; rw [hi, if_pos h0, if_pos h0]; omega
      · rw [← hB, ← hu]; unfold bck bv Rm.far; rw [hi, if_neg (by omega), if_neg (by omega)]; omega
      · rw [← hD, ← hv]; unfold ahd av; rw [hi, hL, if_pos h0, if_pos h0]; omega
      · rw [← hD, ← hv]; unfold ahd av Rm.far; rw [hi, hL, if_neg (by omega), if_neg (by omega)]; omega
    have uin : -1000 ≤ u ∧ u ≤ 1000 := by
      rcases Nat.lt_or_ge 0 i with h0 | h0
      · have a := HU.out.1 h0; have b := HS.out.1 (i - 1) (by omega); omega
      · have a := HU.out.2.1 (by omega); omega
    have vin : -1000 ≤ v ∧ v ≤ 1000 := by
      rcases Nat.lt_or_ge i n with h0 | h0
      · have a := HU.out.2.2.1 h0; have b := HS.out.1 i (by omega); omega
      · have a := HU.out.2.2.2 (by omega); omega
    obtain ⟨u0, u1⟩ := uin
    obtain ⟨v0, v1⟩ := vin
    have p1 := mul_in (a := u) (b := D) (x := 1000) (y := 1099511627777) (by omega) (by omega) d0 d1 (by decide)
    have p2 := mul_in (a := v) (b := B) (x := 1000) (y := 1099511627777) (by omega) (by omega) (by omega) b1 (by decide)
    have HF : Hid (∀ w, Calls Tryz.prog 91 #[.int .i64 (u * D + v * B), .int .i64 (B + D)] w fun e w' => e = .returned (.int .i64 (hup (u * D + v * B) (B + D))) ∧ w = w') := fun w => Un.half_any _ _ (by omega) (by omega) (by omega) (by omega) w
    obtain ⟨P, hP⟩ : ∃ P, u * D = P := ⟨_, rfl⟩
    obtain ⟨Q, hQ⟩ : ∃ P, v * B = P := ⟨_, rfl⟩
    rw [hP] at p1
    rw [hQ] at p2
    rw [hP, hQ] at HF HV
    obtain ⟨R, hR⟩ : ∃ R, hup (P + Q) (B + D) = R := ⟨_, rfl⟩
    rw [hR] at HF HV
    obtain ⟨p10, p11⟩ := p1
    obtain ⟨p20, p21⟩ := p2
    have HPQ := Lib.hid (And.intro hP hQ)
    have wP : IntKind.i64.wrap P = P := IntWalk.i64_in _ (by omega)
    have wQ : IntKind.i64.wrap Q = Q := IntWalk.i64_in _ (by omega)
    have wP2 : wrap64 P = P := IntWalk.wrap64_in _ (by omega)
    have wQ2 : wrap64 Q = Q := IntWalk.wrap64_in _ (by omega)
    clear hd hex hi hB hD hu hv hR
    go_enter Tryz.func62, Tryz.ntmps62
    go_wp2_with fail
    go_at_call 88
    refine (HSR.out _ (Bel.rf.al _)).mono ?_
    rintro e w1 ⟨rfl, hb⟩
    have HB : Hid (Bel w w1) := (Bel.rf.al _).tr hb
    have KB := Bk.bel (Bk.nw w 72 #[.int .i64 f, .int .i64 s, .int .i64 c, .int .i64 r, .int .i64 q]) hb
    have hsz : w.heap.size < w1.heap.size := KB.lt
    have k3 := KB.cell 3
    have k4 := KB.cell 4
    simp at k3 k4
    have HK := Lib.hid KB
    clear hb KB
    have HK3 := Lib.hid k3
    have HK4 := Lib.hid k4
    rcases Nat.lt_or_ge 0 i with hi0 | hi0
    · obtain ⟨g, hA, hab, hac⟩ := (H1.out.bel HB.out).2 (by omega)
      subst hA
      obtain ⟨p, hp⟩ : ∃ p, i - 1 = p := ⟨_, rfl⟩
      obtain ⟨c1, c2⟩ := hac p (by omega)
      have HAC := Lib.hid hac
      obtain ⟨e1, e2⟩ := HU.out.1 hi0
      rw [hp] at e1 e2
      rw [e2] at c2
      obtain ⟨x, hx⟩ : ∃ x, tm l p = x := ⟨_, rfl⟩
      rw [hx] at c1 e1
      have hxB : t - x = B := by omega
      have wB : IntKind.i64.wrap B = B := IntWalk.i64_in _ (by omega)
      have wB2 : wrap64 B = B := IntWalk.wrap64_in _ (by omega)
      have ip : (i : Int) - 1 = (p : Int) := by omega
      have i0 : (0 : Int) < (i : Int) := by omega
      have pn : (p : Int) < (n : Int) := by omega
      have hne : g ≠ w1.heap.size := by omega
      have hne2 : g ≠ w1.heap.size + 1 := by omega
      clear e1 e2 hx hp hac
      go_wp2
      generalize hW : ((w1.alloc (Obj.cells #[Value.int IntKind.i64 0, Value.int IntKind.i64 0] 100)).alloc (Obj.cells #[Value.int IntKind.i64 0, Value.int IntKind.i64 0] 100)) = W
      have HBW : Hid (Bel w1 W) := by show Bel _ _; rw [← hW]; exact (Bel.rf.al _).al _
      have K1 : Bk W w1.heap.size 100 #[.int .i64 0, .int .i64 0] := by rw [← hW]; exact (Bk.nw w1 _ _).al _
      have K2 : Bk W (w1.heap.size + 1) 100 #[.int .i64 0, .int .i64 0] := by rw [← hW]; exact Bk.nq _ _ _ (by simp)
      clear hW
      replace c1 := HBW.out.kp c1
      replace c2 := HBW.out.kp c2
      replace k3 := HBW.out.kp k3
      replace k4 := HBW.out.kp k4
      have f0 := K1.fr 0
      have f1 := K1.fr 1
      have z0 := K1.cell 0
      have z1 := K1.cell 1
      simp at z0 z1
      clear k3 k4
      go_wp2
      go_region
      rcases Nat.lt_or_ge i n with hin | hin
      · have ii : (i : Int) < (n : Int) := by omega
        go_wp2
        generalize hX : ((W.setCell { block := w1.heap.size, off := 0 } (Value.int IntKind.i64 x)).setCell { block := w1.heap.size, off := 1 } (Value.int IntKind.i64 u)).drew = X
        have HBX : Hid (Bel w1 X) := by show Bel _ _; rw [← hX]; exact (((HBW.out).st (p := { block := w1.heap.size, off := 0 }) (by simp) _).st (p := { block := w1.heap.size, off := 1 }) (by simp) _).drw
        have L1 : Bk X w1.heap.size 100 #[.int .i64 x, .int .i64 u] := by rw [← hX]; exact ((K1.st 0 _).st 1 _).drw
        have L2 : Bk X (w1.heap.size + 1) 100 #[.int .i64 0, .int .i64 0] := by rw [← hX]; exact ((K2.far (p := { block := w1.heap.size, off := 0 }) (by simp) _).far (p := { block := w1.heap.size, off := 1 }) (by simp) _).drw
        clear hX K1 K2 c1 c2 f0 f1 z0 z1
        have k3 := HBX.out.kp (p := ⟨w.heap.size, 3, none⟩) (HK3.out)
        have k4 := HBX.out.kp (p := ⟨w.heap.size, 4, none⟩) (HK4.out)
        have l1 := L1.cell 1
        simp at l1
        obtain ⟨d1c, d2c⟩ := HAC.out i hin
        obtain ⟨e3, e4⟩ := HU.out.2.2.1 hin
        rw [e4] at d2c
        obtain ⟨y, hy⟩ : ∃ x, tm l i = x := ⟨_, rfl⟩
        rw [hy] at d1c e3
        have hyD : y - t = D := by omega
        have wD : IntKind.i64.wrap D = D := IntWalk.i64_in _ (by omega)
        have wD2 : wrap64 D = D := IntWalk.wrap64_in _ (by omega)
        clear e3 e4 hy
        replace d1c := HBX.out.kp d1c
        replace d2c := HBX.out.kp d2c
        have f0 := L2.fr 0
        have f1 := L2.fr 1
        have z0 := L2.cell 0
        have z1 := L2.cell 1
        simp at z0 z1
        clear k3 k4
        go_wp2
        go_region
        generalize hX : ((X.setCell { block := w1.heap.size + 1, off := 0 } (Value.int IntKind.i64 y)).setCell { block := w1.heap.size + 1, off := 1 } (Value.int IntKind.i64 v)).drew = Y
        have HBY : Hid (Bel w1 Y) := by show Bel _ _; rw [← hX]; exact (((HBX.out).st (p := { block := w1.heap.size + 1, off := 0 }) (by simp) _).st (p := { block := w1.heap.size + 1, off := 1 }) (by simp) _).drw
        have M1 : Bk Y w1.heap.size 100 #[.int .i64 x, .int .i64 u] := by rw [← hX]; exact ((L1.far (p := { block := w1.heap.size + 1, off := 0 }) (by simp) _).far (p := { block := w1.heap.size + 1, off := 1 }) (by simp) _).drw
        have M2 : Bk Y (w1.heap.size + 1) 100 #[.int .i64 y, .int .i64 v] := by rw [← hX]; exact ((L2.st 0 _).st 1 _).drw
        clear hX L1 L2 d1c d2c f0 f1 z0 z1 l1
        have k3 := HBY.out.kp (p := ⟨w.heap.size, 3, none⟩) (HK3.out)
        have k4 := HBY.out.kp (p := ⟨w.heap.size, 4, none⟩) (HK4.out)
        have l1 := M1.cell 1
        have l2 := M2.cell 1
        simp at l1 l2
        clear M1 M2
        rcases (show r = 1 ∨ r = 2 ∨ r = 3 by omega) with rfl | rfl | rfl
        · rcases Int.lt_or_le q B with hqB | hqB
          · have gq : ¬ B ≤ q := by omega
            first
            | (exfalso; omega)
            | (go_wp2
               go_ret2
               exact ⟨res_eq (HV.out.trans (by rw [if_pos trivial, if_neg (by omega)])), by first | exact HB.out.tr HBY.out | exact (HB.out.tr HBY.out).drwN _ | exact (HB.out.tr HBY.out).drw⟩)
          · first
            | (exfalso; omega)
            | (go_wp2
               go_ret2
               exact ⟨res_eq (HV.out.trans (by rw [if_pos trivial, if_pos (by omega)])), by first | exact HB.out.tr HBY.out | exact (HB.out.tr HBY.out).drwN _ | exact (HB.out.tr HBY.out).drw⟩)
        · rcases Int.lt_or_le D B with hDB | hDB
          · have gd : ¬ B ≤ D := by omega
            rcases Int.lt_or_le q D with hqD | hqD
            · have gq : ¬ D ≤ q := by omega
              first
              | (exfalso; omega)
              | (go_wp2
                 go_ret2
                 exact ⟨res_eq (HV.out.trans (by rw [if_neg (by decide), if_pos trivial, if_neg (by omega), if_neg (by omega)])), by first | exact HB.out.tr HBY.out | exact (HB.out.tr HBY.out).drwN _ | exact (HB.out.tr HBY.out).drw⟩)
            · first
              | (exfalso; omega)
              | (go_wp2
                 go_ret2
                 exact ⟨res_eq (HV.out.trans (by rw [if_neg (by decide), if_pos trivial, if_neg (by omega), if_pos (by omega)])), by first | exact HB.out.tr HBY.out | exact (HB.out.tr HBY.out).drwN _ | exact (HB.out.tr HBY.out).drw⟩)
          · have gd : ¬ D < B := by omega
            rcases Int.lt_or_le q B with hqB | hqB
            · have gq : ¬ B ≤ q := by omega
              first
              | (exfalso; omega)
              | (go_wp2
                 go_ret2
                 exact ⟨res_eq (HV.out.trans (by rw [if_neg (by decide), if_pos trivial, if_neg (by omega), if_neg (by omega)])), by first | exact HB.out.tr HBY.out | exact (HB.out.tr HBY.out).drwN _ | exact (HB.out.tr HBY.out).drw⟩)
            · first
              | (exfalso; omega)
              | (go_wp2
                 go_ret2
                 exact ⟨res_eq (HV.out.trans (by rw [if_neg (by decide), if_pos trivial, if_pos (by omega)])), by first | exact HB.out.tr HBY.out | exact (HB.out.tr HBY.out).drwN _ | exact (HB.out.tr HBY.out).drw⟩)
        · rcases Int.lt_or_le q B with hqB | hqB
          · have gq : ¬ B ≤ q := by omega
            first
            | (exfalso; omega)
            | (go_wp2
               go_ret2
               exact ⟨res_eq (HV.out.trans (by rw [if_neg (by decide), if_neg (by decide), if_pos trivial, if_neg (by omega)])), by first | exact HB.out.tr HBY.out | exact (HB.out.tr HBY.out).drwN _ | exact (HB.out.tr HBY.out).drw⟩)
          · rcases Int.lt_or_le q D with hqD | hqD
            · have gq : ¬ D ≤ q := by omega
              first
              | (exfalso; omega)
              | (go_wp2
                 go_ret2
                 exact ⟨res_eq (HV.out.trans (by rw [if_neg (by decide), if_neg (by decide), if_pos trivial, if_neg (by omega)])), by first | exact HB.out.tr HBY.out | exact (HB.out.tr HBY.out).drwN _ | exact (HB.out.tr HBY.out).drw⟩)
            · have m1 := HPQ.out.1
              have m2 := HPQ.out.2
              go_wp2_with (go_at_call 91; refine (HF.out _).mono ?_; rintro e w9 ⟨rfl, rfl⟩)
              go_ret2
              exact ⟨res_eq (HV.out.trans (by rw [if_neg (by decide), if_neg (by decide), if_pos trivial, if_pos (by omega)])), by first | exact HB.out.tr HBY.out | exact (HB.out.tr HBY.out).drwN _ | exact (HB.out.tr HBY.out).drw⟩
      · obtain rfl : i = n := by omega
        have ii : ¬ (i : Int) < (i : Int) := by omega
        obtain ⟨rfl, rfl⟩ := HU.out.2.2.2 rfl
        generalize hX : ((W.setCell { block := w1.heap.size, off := 0 } (Value.int IntKind.i64 x)).setCell { block := w1.heap.size, off := 1 } (Value.int IntKind.i64 u)).drew = X
        have HBX : Hid (Bel w1 X) := by show Bel _ _; rw [← hX]; exact (((HBW.out).st (p := { block := w1.heap.size, off := 0 }) (by simp) _).st (p := { block := w1.heap.size, off := 1 }) (by simp) _).drw
        have L1 : Bk X w1.heap.size 100 #[.int .i64 x, .int .i64 u] := by rw [← hX]; exact ((K1.st 0 _).st 1 _).drw
        have L2 : Bk X (w1.heap.size + 1) 100 #[.int .i64 0, .int .i64 0] := by rw [← hX]; exact ((K2.far (p := { block := w1.heap.size, off := 0 }) (by simp) _).far (p := { block := w1.heap.size, off := 1 }) (by simp) _).drw
        clear hX K1 K2 c1 c2 f0 f1 z0 z1
        have k3 := HBX.out.kp (p := ⟨w.heap.size, 3, none⟩) (HK3.out)
        have k4 := HBX.out.kp (p := ⟨w.heap.size, 4, none⟩) (HK4.out)
        have l1 := L1.cell 1
        simp at l1
        have l2 := L2.cell 1
        simp at l2
        have HBY := HBX
        clear L1 L2
        rcases (show r = 1 ∨ r = 2 ∨ r = 3 by omega) with rfl | rfl | rfl
        · rcases Int.lt_or_le q B with hqB | hqB
          · have gq : ¬ B ≤ q := by omega
            first
            | (exfalso; omega)
            | (go_wp2
               go_ret2
               exact ⟨res_eq (HV.out.trans (by rw [if_pos trivial, if_neg (by omega)])), by first | exact HB.out.tr HBY.out | exact (HB.out.tr HBY.out).drwN _ | exact (HB.out.tr HBY.out).drw⟩)
          · first
            | (exfalso; omega)
            | (go_wp2
               go_ret2
               exact ⟨res_eq (HV.out.trans (by rw [if_pos trivial, if_pos (by omega)])), by first | exact HB.out.tr HBY.out | exact (HB.out.tr HBY.out).drwN _ | exact (HB.out.tr HBY.out).drw⟩)
        · rcases Int.lt_or_le 1099511627777 B with hDB | hDB
          · have gd : ¬ B ≤ 1099511627777 := by omega
            rcases Int.lt_or_le q 1099511627777 with hqD | hqD
            · have gq : ¬ 1099511627777 ≤ q := by omega
              first
              | (exfalso; omega)
              | (go_wp2
                 go_ret2
                 exact ⟨res_eq (HV.out.trans (by rw [if_neg (by decide), if_pos trivial, if_neg (by omega), if_neg (by omega)])), by first | exact HB.out.tr HBY.out | exact (HB.out.tr HBY.out).drwN _ | exact (HB.out.tr HBY.out).drw⟩)
            · first
              | (exfalso; omega)
              | (go_wp2
                 go_ret2
                 exact ⟨res_eq (HV.out.trans (by rw [if_neg (by decide), if_pos trivial, if_neg (by omega), if_pos (by omega)])), by first | exact HB.out.tr HBY.out | exact (HB.out.tr HBY.out).drwN _ | exact (HB.out.tr HBY.out).drw⟩)
          · have gd : ¬ 1099511627777 < B := by omega
            rcases Int.lt_or_le q B with hqB | hqB
            · have gq : ¬ B ≤ q := by omega
              first
              | (exfalso; omega)
              | (go_wp2
                 go_ret2
                 exact ⟨res_eq (HV.out.trans (by rw [if_neg (by decide), if_pos trivial, if_neg (by omega), if_neg (by omega)])), by first | exact HB.out.tr HBY.out | exact (HB.out.tr HBY.out).drwN _ | exact (HB.out.tr HBY.out).drw⟩)
            · first
              | (exfalso; omega)
              | (go_wp2
                 go_ret2
                 exact ⟨res_eq (HV.out.trans (by rw [if_neg (by decide), if_pos trivial, if_pos (by omega)])), by first | exact HB.out.tr HBY.out | exact (HB.out.tr HBY.out).drwN _ | exact (HB.out.tr HBY.out).drw⟩)
        · rcases Int.lt_or_le q B with hqB | hqB
          · have gq : ¬ B ≤ q := by omega
            first
            | (exfalso; omega)
            | (go_wp2
               go_ret2
               exact ⟨res_eq (HV.out.trans (by rw [if_neg (by decide), if_neg (by decide), if_pos trivial, if_neg (by omega)])), by first | exact HB.out.tr HBY.out | exact (HB.out.tr HBY.out).drwN _ | exact (HB.out.tr HBY.out).drw⟩)
          · rcases Int.lt_or_le q 1099511627777 with hqD | hqD
            · have gq : ¬ 1099511627777 ≤ q := by omega
              first
              | (exfalso; omega)
              | (go_wp2
                 go_ret2
                 exact ⟨res_eq (HV.out.trans (by rw [if_neg (by decide), if_neg (by decide), if_pos trivial, if_neg (by omega)])), by first | exact HB.out.tr HBY.out | exact (HB.out.tr HBY.out).drwN _ | exact (HB.out.tr HBY.out).drw⟩)
            · exfalso; omega
    · obtain rfl : i = 0 := by omega
      obtain ⟨rfl, rfl⟩ := HU.out.2.1 rfl
      rcases Nat.lt_or_ge 0 n with hin | hin
      · have ii : (0 : Int) < (n : Int) := by omega
        obtain ⟨g, hA, hab, hac⟩ := (H1.out.bel HB.out).2 (by omega)
        subst hA
        obtain ⟨d1c, d2c⟩ := hac 0 (by omega)
        obtain ⟨e3, e4⟩ := HU.out.2.2.1 (by omega)
        rw [e4] at d2c
        obtain ⟨y, hy⟩ : ∃ x, tm l 0 = x := ⟨_, rfl⟩
        rw [hy] at d1c e3
        have hyD : y - t = D := by omega
        have wD : IntKind.i64.wrap D = D := IntWalk.i64_in _ (by omega)
        have wD2 : wrap64 D = D := IntWalk.wrap64_in _ (by omega)
        have hne : g ≠ w1.heap.size := by omega
        have hne2 : g ≠ w1.heap.size + 1 := by omega
        clear e3 e4 hy hac
        go_wp2
        generalize hW : ((w1.alloc (Obj.cells #[Value.int IntKind.i64 0, Value.int IntKind.i64 0] 100)).alloc (Obj.cells #[Value.int IntKind.i64 0, Value.int IntKind.i64 0] 100)) = W
        have HBW : Hid (Bel w1 W) := by show Bel _ _; rw [← hW]; exact (Bel.rf.al _).al _
        have K1 : Bk W w1.heap.size 100 #[.int .i64 0, .int .i64 0] := by rw [← hW]; exact (Bk.nw w1 _ _).al _
        have K2 : Bk W (w1.heap.size + 1) 100 #[.int .i64 0, .int .i64 0] := by rw [← hW]; exact Bk.nq _ _ _ (by simp)
        clear hW
        rw [Nat.zero_mul] at d1c
        replace d1c := HBW.out.kp d1c
        replace d2c := HBW.out.kp d2c
        replace k3 := HBW.out.kp k3
        replace k4 := HBW.out.kp k4
        have f0 := K2.fr 0
        have f1 := K2.fr 1
        have z0 := K2.cell 0
        have z1 := K2.cell 1
        simp at z0 z1
        clear k3 k4
        go_wp2
        go_region
        generalize hX : ((W.setCell { block := w1.heap.size + 1, off := 0 } (Value.int IntKind.i64 y)).setCell { block := w1.heap.size + 1, off := 1 } (Value.int IntKind.i64 v)).drew = Y
        have HBY : Hid (Bel w1 Y) := by show Bel _ _; rw [← hX]; exact (((HBW.out).st (p := { block := w1.heap.size + 1, off := 0 }) (by simp) _).st (p := { block := w1.heap.size + 1, off := 1 }) (by simp) _).drw
        have M1 : Bk Y w1.heap.size 100 #[.int .i64 0, .int .i64 0] := by rw [← hX]; exact ((K1.far (p := { block := w1.heap.size + 1, off := 0 }) (by simp) _).far (p := { block := w1.heap.size + 1, off := 1 }) (by simp) _).drw
        have M2 : Bk Y (w1.heap.size + 1) 100 #[.int .i64 y, .int .i64 v] := by rw [← hX]; exact ((K2.st 0 _).st 1 _).drw
        clear hX K1 K2 d1c d2c f0 f1 z0 z1
        have k3 := HBY.out.kp (p := ⟨w.heap.size, 3, none⟩) (HK3.out)
        have k4 := HBY.out.kp (p := ⟨w.heap.size, 4, none⟩) (HK4.out)
        have l1 := M1.cell 1
        have l2 := M2.cell 1
        simp at l1 l2
        clear M1 M2
        rcases (show r = 1 ∨ r = 2 ∨ r = 3 by omega) with rfl | rfl | rfl
        · rcases Int.lt_or_le q 1099511627777 with hqB | hqB
          · have gq : ¬ 1099511627777 ≤ q := by omega
            first
            | (exfalso; omega)
            | (go_wp2
               go_ret2
               exact ⟨res_eq (HV.out.trans (by rw [if_pos trivial, if_neg (by omega)])), by first | exact HB.out.tr HBY.out | exact (HB.out.tr HBY.out).drwN _ | exact (HB.out.tr HBY.out).drw⟩)
          · first
            | (exfalso; omega)
            | (go_wp2
               go_ret2
               exact ⟨res_eq (HV.out.trans (by rw [if_pos trivial, if_pos (by omega)])), by first | exact HB.out.tr HBY.out | exact (HB.out.tr HBY.out).drwN _ | exact (HB.out.tr HBY.out).drw⟩)
        · rcases Int.lt_or_le D 1099511627777 with hDB | hDB
          · have gd : ¬ 1099511627777 ≤ D := by omega
            rcases Int.lt_or_le q D with hqD | hqD
            · have gq : ¬ D ≤ q := by omega
              first
              | (exfalso; omega)
              | (go_wp2
                 go_ret2
                 exact ⟨res_eq (HV.out.trans (by rw [if_neg (by decide), if_pos trivial, if_neg (by omega), if_neg (by omega)])), by first | exact HB.out.tr HBY.out | exact (HB.out.tr HBY.out).drwN _ | exact (HB.out.tr HBY.out).drw⟩)
            · first
              | (exfalso; omega)
              | (go_wp2
                 go_ret2
                 exact ⟨res_eq (HV.out.trans (by rw [if_neg (by decide), if_pos trivial, if_neg (by omega), if_pos (by omega)])), by first | exact HB.out.tr HBY.out | exact (HB.out.tr HBY.out).drwN _ | exact (HB.out.tr HBY.out).drw⟩)
          · have gd : ¬ D < 1099511627777 := by omega
            rcases Int.lt_or_le q 1099511627777 with hqB | hqB
            · have gq : ¬ 1099511627777 ≤ q := by omega
              first
              | (exfalso; omega)
              | (go_wp2
                 go_ret2
                 exact ⟨res_eq (HV.out.trans (by rw [if_neg (by decide), if_pos trivial, if_neg (by omega), if_neg (by omega)])), by first | exact HB.out.tr HBY.out | exact (HB.out.tr HBY.out).drwN _ | exact (HB.out.tr HBY.out).drw⟩)
            · first
              | (exfalso; omega)
              | (go_wp2
                 go_ret2
                 exact ⟨res_eq (HV.out.trans (by rw [if_neg (by decide), if_pos trivial, if_pos (by omega)])), by first | exact HB.out.tr HBY.out | exact (HB.out.tr HBY.out).drwN _ | exact (HB.out.tr HBY.out).drw⟩)
        · rcases Int.lt_or_le q 1099511627777 with hqB | hqB
          · have gq : ¬ 1099511627777 ≤ q := by omega
            first
            | (exfalso; omega)
            | (go_wp2
               go_ret2
               exact ⟨res_eq (HV.out.trans (by rw [if_neg (by decide), if_neg (by decide), if_pos trivial, if_neg (by omega)])), by first | exact HB.out.tr HBY.out | exact (HB.out.tr HBY.out).drwN _ | exact (HB.out.tr HBY.out).drw⟩)
          · rcases Int.lt_or_le q D with hqD | hqD
            · have gq : ¬ D ≤ q := by omega
              first
              | (exfalso; omega)
              | (go_wp2
                 go_ret2
                 exact ⟨res_eq (HV.out.trans (by rw [if_neg (by decide), if_neg (by decide), if_pos trivial, if_neg (by omega)])), by first | exact HB.out.tr HBY.out | exact (HB.out.tr HBY.out).drwN _ | exact (HB.out.tr HBY.out).drw⟩)
            · exfalso; omega
      · obtain rfl : n = 0 := by omega
        obtain ⟨rfl, rfl⟩ := HU.out.2.2.2 rfl
        have k3' : ∀ o p, ((w1.alloc o).alloc p).cell? ⟨w.heap.size, 3, none⟩ = some (.int .i64 r) := fun o p => kp_al (kp_al k3 o) p
        have k4' : ∀ o p, ((w1.alloc o).alloc p).cell? ⟨w.heap.size, 4, none⟩ = some (.int .i64 q) := fun o p => kp_al (kp_al k4 o) p
        rcases (show r = 1 ∨ r = 2 ∨ r = 3 by omega) with rfl | rfl | rfl
        · rcases Int.lt_or_le q 1099511627777 with hqB | hqB
          · have gq : ¬ 1099511627777 ≤ q := by omega
            first
            | (exfalso; omega)
            | (go_wp2
               go_ret2
               exact ⟨res_eq (HV.out.trans (by rw [if_pos trivial, if_neg (by omega)])), by first | exact (HB.out.al _).al _ | exact ((HB.out.al _).al _).drwN _⟩)
          · first
            | (exfalso; omega)
            | (go_wp2
               go_ret2
               exact ⟨res_eq (HV.out.trans (by rw [if_pos trivial, if_pos (by omega)])), by first | exact (HB.out.al _).al _ | exact ((HB.out.al _).al _).drwN _⟩)
        · rcases Int.lt_or_le 1099511627777 1099511627777 with hDB | hDB
          · have gd : ¬ 1099511627777 ≤ 1099511627777 := by omega
            rcases Int.lt_or_le q 1099511627777 with hqD | hqD
            · have gq : ¬ 1099511627777 ≤ q := by omega
              first
              | (exfalso; omega)
              | (go_wp2
                 go_ret2
                 exact ⟨res_eq (HV.out.trans (by rw [if_neg (by decide), if_pos trivial, if_neg (by omega), if_neg (by omega)])), by first | exact (HB.out.al _).al _ | exact ((HB.out.al _).al _).drwN _⟩)
            · first
              | (exfalso; omega)
              | (go_wp2
                 go_ret2
                 exact ⟨res_eq (HV.out.trans (by rw [if_neg (by decide), if_pos trivial, if_neg (by omega), if_pos (by omega)])), by first | exact (HB.out.al _).al _ | exact ((HB.out.al _).al _).drwN _⟩)
          · have gd : ¬ 1099511627777 < 1099511627777 := by omega
            rcases Int.lt_or_le q 1099511627777 with hqB | hqB
            · have gq : ¬ 1099511627777 ≤ q := by omega
              first
              | (exfalso; omega)
              | (go_wp2
                 go_ret2
                 exact ⟨res_eq (HV.out.trans (by rw [if_neg (by decide), if_pos trivial, if_neg (by omega), if_neg (by omega)])), by first | exact (HB.out.al _).al _ | exact ((HB.out.al _).al _).drwN _⟩)
            · first
              | (exfalso; omega)
              | (go_wp2
                 go_ret2
                 exact ⟨res_eq (HV.out.trans (by rw [if_neg (by decide), if_pos trivial, if_pos (by omega)])), by first | exact (HB.out.al _).al _ | exact ((HB.out.al _).al _).drwN _⟩)
        · rcases Int.lt_or_le q 1099511627777 with hqB | hqB
          · have gq : ¬ 1099511627777 ≤ q := by omega
            first
            | (exfalso; omega)
            | (go_wp2
               go_ret2
               exact ⟨res_eq (HV.out.trans (by rw [if_neg (by decide), if_neg (by decide), if_pos trivial, if_neg (by omega)])), by first | exact (HB.out.al _).al _ | exact ((HB.out.al _).al _).drwN _⟩)
          · rcases Int.lt_or_le q 1099511627777 with hqD | hqD
            · have gq : ¬ 1099511627777 ≤ q := by omega
              first
              | (exfalso; omega)
              | (go_wp2
                 go_ret2
                 exact ⟨res_eq (HV.out.trans (by rw [if_neg (by decide), if_neg (by decide), if_pos trivial, if_neg (by omega)])), by first | exact (HB.out.al _).al _ | exact ((HB.out.al _).al _).drwN _⟩)
            · exfalso; omega
end Go.Proofs.YtpbnabibnkohdaaGreatDoor.Rg
namespace Go.Proofs.YtpbnabibnkohdaaGreatDoor.Rg
open Go.ChangeShapes Go.WideShapes Go.RowKit Wo Sr Wi Rm
set_option linter.unusedVariables false
theorem snoc_tm (l : List Rp) (p : Rp) (i : Nat) : tm (l ++ [p]) i = if i < l.length then tm l i else if i = l.length then p.1 else 0 := by
  unfold tm
  rw [List.getD_eq_getElem?_getD, List.getD_eq_getElem?_getD, List.getElem?_append]
  split
  · rfl
  · split
    · rename_i h; subst h; simp
    · rw [List.getElem?_eq_none (by simp; omega)]; rfl
theorem snoc_vl (l : List Rp) (p : Rp) (i : Nat) : vl (l ++ [p]) i = if i < l.length then vl l i else if i = l.length then p.2 else 0 := by
  unfold vl
  rw [List.getD_eq_getElem?_getD, List.getD_eq_getElem?_getD, List.getElem?_append]
  split
  · rfl
  · split
    · rename_i h; subst h; simp
    · rw [List.getElem?_eq_none (by simp; omega)]; rfl
theorem asc_snoc {l : List Rp} (h : Asc l) (a b : Int) (ha : ∀ i, i < l.length → tm l i < a) (a0 : 0 ≤ a) (a1 : a ≤ 1099511627776) (b0 : -1000 ≤ b) (b1 : b ≤ 1000) : Asc (l ++ [(a, b)]) := by
  have hl : (l ++ [(a, b)]).length = l.length + 1 := by simp
  refine ⟨fun i hi => ?_, fun i hi => ?_⟩
  · rw [hl] at hi
    rw [snoc_tm, snoc_vl]
    by_cases h2 : i < l.length
    · rw [if_pos h2, if_pos h2]; exact h.1 i h2
    · rw [if_neg h2, if_neg h2, if_pos (by omega), if_pos (by omega)]; exact ⟨a0, a1, b0, b1⟩
  · rw [hl] at hi
    rw [snoc_tm, snoc_tm, if_pos (by omega)]
    by_cases h2 : i + 1 < l.length
    · rw [if_pos h2]; exact h.2 i h2
    · rw [if_neg h2, if_pos (by omega)]; exact ha i (by omega)
theorem asc_nil : Asc [] := ⟨fun i hi => by simp at hi, fun i hi => by simp at hi⟩
/-- a new row of readings that ascend -/
def SomeAsc (g m : Nat) (w : World) (e : Ending) (w' : World) : Prop := ∃ (v : Value) (k : Nat) (l : List Rp), e = .returned v ∧ w'.ownsRow w.heap.size 100 2 v k (rs l) ∧ l.length = k ∧ k ≤ m ∧ Asc l ∧ (0 < k → tm l 0 ≤ 1099511627488) ∧ Ok w' g ∧ Ch g w w'
def AI (N : Nat) (g base : Nat) (w : World) (s5 s6 s7 : Value) (wr : World) : Prop := ∃ (k : Nat) (l : List Rp) (t i : Int) (V : World) (u : Value), V = wr ∧ u = s5 ∧ k ≤ N ∧ s7 = .int .i64 i ∧ i = (N : Int) - (k : Int) ∧ s6 = .int .i64 t ∧
  wr.ownsRow base 100 2 s5 k (rs l) ∧ l.length = k ∧ Asc l ∧ (∀ i, i < k → tm l i ≤ t) ∧ 0 ≤ t ∧ t ≤ 1099511627476 + 12 * (k : Int) ∧ (0 < k → tm l 0 ≤ 1099511627488) ∧ Ok wr g ∧ Ch g w wr ∧ base ≤ wr.heap.size
theorem ai_step {N g k : Nat} {w wr w1 w2 : World} {s5 v' : Value} {l : List Rp} {t x y : Int} (hgb : g < w.heap.size) (hk : k < N) (hN : N ≤ 25) (hL : l.length = k) (hv : Asc l) (hle : ∀ i, i < k → tm l i ≤ t) (t0 : 0 ≤ t) (t1 : t ≤ 1099511627476 + 12 * (k : Int)) (hf : 0 < k → tm l 0 ≤ 1099511627488) (x0 : 1 ≤ x) (x1 : x ≤ 12) (y0 : -1000 ≤ y) (y1 : y ≤ 1000)
    (hown : wr.ownsRow w.heap.size 100 2 s5 k (rs l)) (ho1 : Ok w1 g) (hc1 : Ch g wr w1) (hb : Ch g w wr) (hbase : w.heap.size ≤ wr.heap.size) (o : Obj)
    (hown2 : w2.ownsRow w.heap.size 100 2 v' (k + 1) (rs (l ++ [(t + x, y)]))) (hgr : (w1.alloc o).grownBy w2 s5.ownBlock) :
    AI N g w.heap.size w v' (.int .i64 (t + x)) (.int .i64 ((N : Int) - (k : Int) - 1)) w2 := by
  have hrow : ∀ b, s5.ownBlock = some b → w.heap.size ≤ b := fun b e => (hown.lt b e).1
  refine ⟨k + 1, l ++ [(t + x, y)], t + x, _, _, _, rfl, rfl, by omega, rfl, by omega, rfl, hown2, by simp [hL], asc_snoc hv _ _ (fun i hi => by have := hle i (by omega); omega) (by omega) (by omega) y0 y1, fun i hi => ?_, by omega, by omega, fun _ => ?_, ?_, ?_, ?_⟩
  · rw [snoc_tm]
    by_cases h2 : i < l.length
    · rw [if_pos h2]; have := hle i (by omega); omega
    · rw [if_neg h2, if_pos (by omega)]; exact Int.le_refl _
  · rw [snoc_tm]
    by_cases h2 : 0 < l.length
    · rw [if_pos h2]; exact hf (by omega)
    · rw [if_neg h2, if_pos (by omega)]; show t + x ≤ _; omega
  · exact ok_grown (ho1.bel (Bel.rf.al _)) hgr (fun b e => by have := hrow b e; omega)
  · exact ch_grown ((hb.tr hc1).al _) hgr hrow
  · have := hgr.size
    have := hc1.sz
    simp at *
    omega
end Go.Proofs.YtpbnabibnkohdaaGreatDoor.Rg
namespace Go.Proofs.YtpbnabibnkohdaaGreatDoor.Rg
open Go.ChangeShapes Go.WideShapes Go.RowKit Wo Sr Wi Rm
set_option linter.unusedVariables false
theorem wp_make_any {P : Program} (w : World) {o : Oper} {a : Act} {K : Act → World → Prop} {Q : Exit → Act → World → Prop}
    (l c : Operand) (t : TypeId) (hop : o.op = Op.makeSlice t l c)
    (e : TypeId) (i : TypeInfo) (z : Value) (size : Nat) (h1 : P.underlying t = some (.slice e)) (h2 : P.info? e = some i) (h3 : i.zero = some z) (h4 : i.size = size)
    (kl kc : IntKind) (L C : Int) (m n : Nat) (hl : a.eval l = .int kl L) (hc : a.eval c = .int kc C) (hL : L = (m : Int)) (hC : C = (n : Int)) (hmn : m ≤ n) (b2 : i.bytes * n ≤ 281474976710656) (b3 : n ≤ 4611686018427387904)
    (hK : K (a.put o.dst (.slice (some ⟨w.heap.size, 0, none⟩) m n)) (w.alloc (.cells (madeCells z.cells (n * size)) e))) : o.wp P a w K Q := by
  have hb' : (i.bytes : Int) * (n : Int) ≤ 281474976710656 := by
    have h : ((i.bytes * n : Nat) : Int) ≤ 281474976710656 := by omega
    rwa [Int.natCast_mul] at h
  have hr := run_make (P := P) w t e i z h1 h2 h3 kl kc m n (by omega) (by omega) hb' (by omega)
  simp only [Int.toNat_natCast] at hr
  subst hL
  subst hC
  subst h4
  unfold Oper.wp
  simp [execOp, hop, hl, hc, hr, Result.andThen]
  exact hK
theorem step_make_any {P : Program} (w : World) {ops : Array Oper} {o : Oper} {a : Act} {K : Act → World → Prop} {Q : Exit → Act → World → Prop} {E : Prop} (hgd : o.guard = none)
    (l c : Operand) (t : TypeId) (hop : o.op = Op.makeSlice t l c)
    (e : TypeId) (i : TypeInfo) (z : Value) (size : Nat) (h1 : P.underlying t = some (.slice e)) (h2 : P.info? e = some i) (h3 : i.zero = some z) (h4 : i.size = size)
    (kl kc : IntKind) (L C : Int) (m n : Nat) (hl : a.eval l = .int kl L) (hc : a.eval c = .int kc C) (hL : L = (m : Int)) (hC : C = (n : Int)) (hmn : m ≤ n) (b2 : i.bytes * n ≤ 281474976710656) (b3 : n ≤ 4611686018427387904)
    (hK : K (a.put o.dst (.slice (some ⟨w.heap.size, 0, none⟩) m n)) (w.alloc (.cells (madeCells z.cells (n * size)) e))) :
    if Region.wanted o (yielded ops a.tmps) = true then Oper.wp P o a w K Q else E := by
  have hw : Region.wanted o (yielded ops a.tmps) = true := by simp [Region.wanted, hgd]
  rw [if_pos hw]
  exact wp_make_any w l c t hop e i z size h1 h2 h3 h4 kl kc L C m n hl hc hL hC hmn b2 b3 hK
/-- a grid as a result of its own -/
theorem results_g {fn : Func} {p : Tmp} (h : fn.results = #[.cell p 72]) (tmps : Array Value) (w : World) (g : Nat) (a b c d e : Value)
    (hp : tmps.getD p undef = .pointer (some ⟨g, 0, none⟩)) (hg : Bk w g 72 #[a, b, c, d, e]) :
    (results fn tmps).run Tryz.prog w = .ok (.agg #[a, b, c, d, e]) w := by
  have hp' : tmps[p]?.getD undef = .pointer (some ⟨g, 0, none⟩) := by simpa using hp
  have hl := run_loadVar_row (P := Tryz.prog) w g 72 72 #[a, b, c, d, e] (0, 0) _ hg Tryz.underlying72 rfl (by kernel_rfl)
  simp [results, h, hp', asAddr, hl]
/-- a series and an error -/
theorem results_s {fn : Func} {p u : Tmp} (h : fn.results = #[.cell p 68, .tmp u]) (tmps : Array Value) (w : World) (g : Nat) (a b c : Value)
    (hp : tmps.getD p undef = .pointer (some ⟨g, 0, none⟩)) (hg : Bk w g 68 #[a, b, c]) :
    (results fn tmps).run Tryz.prog w = .ok (.tuple #[.agg #[a, b, c], tmps.getD u undef]) w := by
  have hp' : tmps[p]?.getD undef = .pointer (some ⟨g, 0, none⟩) := by simpa using hp
  have hl := run_loadVar_row (P := Tryz.prog) w g 68 68 #[a, b, c] (0, 0) _ hg Tryz.underlying68 rfl (by kernel_rfl)
  simp [results, h, hp', asAddr, hl]
end Go.Proofs.YtpbnabibnkohdaaGreatDoor.Rg
namespace Go.Proofs.YtpbnabibnkohdaaGreatDoor.Rg
open Go.ChangeShapes Go.WideShapes Go.RowKit Wo Sr Wi Rm
set_option linter.unusedVariables false
def vz (p : Int × Bool) : Int := if p.2 = true then p.1 else 1073741824
def vals (l : List Rp) (f s r q : Int) (N : Nat) : List Int := (List.range N).map fun (i : Nat) => vz (val l r q (f + (i : Int) * s))
theorem vals_len (l : List Rp) (f s r q : Int) (N : Nat) : (vals l f s r q N).length = N := by simp [vals]
theorem vals_at (l : List Rp) (f s r q : Int) (N i : Nat) (h : i < N) : (vals l f s r q N).getD i 0 = vz (val l r q (f + (i : Int) * s)) := by
  rw [List.getD_eq_getElem?_getD, vals, List.getElem?_map, List.getElem?_range h]; rfl
theorem bk_set {w : World} {h : Nat} {t : TypeId} {M : List Int} (hb : Bk w h t (zs M).toArray) (k : Nat) (v : Int) : Bk (w.setCell ⟨h, k, none⟩ (.int .i64 v)) h t (zs (M.set k v)).toArray := by
  have := hb.st k (.int .i64 v)
  have e : (zs M).toArray.setIfInBounds k (.int .i64 v) = (zs (M.set k v)).toArray := by simp [zs, List.map_set]
  rwa [e] at this
theorem set_at (A : List Int) (k i : Nat) (y : Int) : (A.set k y).getD i 0 = if i = k ∧ i < A.length then y else A.getD i 0 := by
  rw [List.getD_eq_getElem?_getD, List.getD_eq_getElem?_getD, List.getElem?_set]
  rcases Classical.em (k = i) with rfl | h
  · rcases Nat.lt_or_ge k A.length with h2 | h2
    · simp [h2]
    · simp [Nat.not_lt.2 h2]
  · rw [if_neg h, if_neg (by omega)]
theorem lists_eq {A B : List Int} (hl : A.length = B.length) (h : ∀ i, i < A.length → A.getD i 0 = B.getD i 0) : A = B := by
  apply List.ext_getElem?
  intro i
  rcases Nat.lt_or_ge i A.length with hi | hi
  · have := h i hi
    rw [List.getD_eq_getElem?_getD, List.getD_eq_getElem?_getD, List.getElem?_eq_getElem hi, List.getElem?_eq_getElem (by omega)] at this
    rw [List.getElem?_eq_getElem hi, List.getElem?_eq_getElem (by omega)]
    exact congrArg some this
  · rw [List.getElem?_eq_none hi, List.getElem?_eq_none (by omega)]
set_option maxHeartbeats 8000000 in
set_option maxRecDepth 100000 in
theorem apply_ok (A : Option Addr) (ca n : Nat) (l : List Rp) (hn : n ≤ 2000) (hs : Asc l) (f s r q : Int) (N : Nat) (hg : Gv f s (N : Int) r q) (w : World) (h : Zr w A n l) :
    Calls Tryz.prog 35 #[.slice A n ca, gv f s (N : Int) r q] w fun e w' => ∃ gq : Nat, e = .returned (.tuple #[.agg #[.int .i64 f, .int .i64 s, .slice (some ⟨gq, 0, none⟩) N N], .int .i64 0]) ∧ w.heap.size ≤ gq ∧ Bk w' gq 3 (zs (vals l f s r q N)).toArray ∧ Bel w w' := by
  have HRG : Hid (∀ W, Bel w W → _) := fun W hW => regular_ok A ca n l hn hs W (h.bel hW)
  have HVD : Hid (∀ W, _) := fun W => valid_ok f s N r q hg W
  obtain ⟨f0, f1, s0, s1, c0, c1, h1, r0, r1, q0, q1⟩ := hg
  have HTM : Hid (∀ i : Nat, i < N → 0 ≤ (i : Int) * s ∧ f + (i : Int) * s ≤ 1099511627776) := fun i hi => by
    have a := h1 (by omega)
    have b := Int.mul_le_mul_of_nonneg_right (show (i : Int) ≤ (N : Int) - 1 by omega) (show 0 ≤ s by omega)
    exact ⟨Int.mul_nonneg (by omega) (by omega), by omega⟩
  have HVL : Hid (∀ (t : Int) W, 0 ≤ t → t ≤ 1099511627776 → Bel w W → _) := fun t W t0 t1 hW => value_ok A ca n l hn hs f s N r q t t0 t1 r0 r1 q0 q1 W (h.bel hW)
  obtain ⟨i0, hi0, hz0, hz1, hz2⟩ := info_parts info_int
  have HI := Lib.hid (And.intro hi0 (And.intro hz0 (And.intro hz1 hz2)))
  have HMK : Hid (∀ W : World, (Instr.makeSlice 22 (.int .i64 (N : Int)) (.int .i64 (N : Int))).run Tryz.prog W = .ok (.slice (some ⟨W.heap.size, 0, none⟩) N N) (W.alloc (.cells (zs (List.replicate N 0)).toArray 3))) := fun W => by
    have hr := run_make (P := Tryz.prog) W 22 3 i0 (.int .i64 0) Tryz.underlying22 hi0 hz0 .i64 .i64 (N : Int) (N : Int) (by omega) (by omega) (by rw [hz2]; omega) (by omega)
    simp only [Int.toNat_natCast] at hr
    rw [hz1, made_i64] at hr
    exact hr
  unfold gv at HVD HVL ⊢
  clear h hs h1 hi0 hz0 hz1 hz2
  go_enter Tryz.func35, Tryz.ntmps35
  go_wp2_with fail
  go_at_call 60
  refine (HVD.out _).mono ?_
  rintro e w1 ⟨rfl, hb⟩
  have KB := ((Bk.nw w 72 #[.int .i64 f, .int .i64 s, .int .i64 (N : Int), .int .i64 r, .int .i64 q]).al _).bel hb
  have KR := (Bk.nq (w.alloc (.cells #[.int .i64 f, .int .i64 s, .int .i64 (N : Int), .int .i64 r, .int .i64 q] 72)) 68 #[.int .i64 0, .int .i64 0, .slice none 0 0] (g := w.heap.size + 1) (by simp)).bel hb
  have HB1 : Hid (Bel w w1) := ((Bel.rf.al _).al _).tr hb
  have HKB := Lib.hid KB
  have HKR := Lib.hid KR
  clear hb KB KR
  go_wp2_with fail
  go_at_call 61
  refine (HRG.out _ (by first | exact HB1.out | exact HB1.out.drwN _)).mono ?_
  rintro e w2 ⟨rfl, hb⟩
  have HB2 : Hid (Bel w w2) := by first | exact HB1.out.tr hb | exact (HB1.out.drwN _).tr hb
  have KB : Bk w2 w.heap.size 72 #[.int .i64 f, .int .i64 s, .int .i64 (N : Int), .int .i64 r, .int .i64 q] := by first | exact HKB.out.bel hb | exact (HKB.out.drwN _).bel hb
  have KR : Bk w2 (w.heap.size + 1) 68 #[.int .i64 0, .int .i64 0, .slice none 0 0] := by first | exact HKR.out.bel hb | exact (HKR.out.drwN _).bel hb
  have k0 := KB.cell 0
  have k1 := KB.cell 1
  have k2 := KB.cell 2
  simp at k0 k1 k2
  have kz := KR.lt
  have k0a := fun o => kp_al k0 o
  have k0b := fun o p => kp_al (kp_al k0 o) p
  have k1a := fun o => kp_al k1 o
  have k1b := fun o p => kp_al (kp_al k1 o) p
  have k2a := fun o => kp_al k2 o
  have k2b := fun o p => kp_al (kp_al k2 o) p
  have HKB2 := Lib.hid KB
  have HKR2 := Lib.hid KR
  have hmk : ∀ W : World, (Instr.makeSlice 22 (.int .i64 (N : Int)) (.int .i64 (N : Int))).run Tryz.prog W = .ok (.slice (some ⟨W.heap.size, 0, none⟩) N N) (W.alloc (.cells (zs (List.replicate N 0)).toArray 3)) := HMK.out
  clear hb KB KR
  go_wp2
  go_region
  -- ORDERS
  · generalize hW : ((w2.alloc (.cells (zs (List.replicate N 0)).toArray 3)).alloc (.cells #[.int .i64 f, .int .i64 s, .slice (some ⟨w2.heap.size, 0, none⟩) N N] 68)).drew = W
    have HSZ : Hid (w.heap.size ≤ w2.heap.size ∧ w.heap.size + 1 < w2.heap.size) := ⟨HB2.out.size, kz⟩
    have KQ : Bk W (w2.heap.size) 3 (zs (List.replicate N 0)).toArray := by rw [← hW]; exact Bk.nw w2 _ _ |>.al _ |>.drw
    have KS : Bk W (w2.heap.size + 1) 68 #[.int .i64 f, .int .i64 s, .slice (some ⟨w2.heap.size, 0, none⟩) N N] := by rw [← hW]; exact Bk.nq _ _ _ (by simp) |>.drw
    have HBW : Hid (Bel w2 W) := by show Bel _ _; rw [← hW]; exact ((Bel.rf.al _).al _).drw
    have HR0 : Hid (∃ (k : Nat) (V : World) (M : List Int), V = W ∧ k ≤ N ∧ Value.int IntKind.i64 0 = .int .i64 (k : Int) ∧ M.length = N ∧ (∀ i, i < k → M.getD i 0 = (vals l f s r q N).getD i 0) ∧ Bk W (w2.heap.size) 3 (zs M).toArray ∧ Bk W (w2.heap.size + 1) 68 #[.int .i64 f, .int .i64 s, .slice (some ⟨w2.heap.size, 0, none⟩) N N] ∧ Bk W w.heap.size 72 #[.int .i64 f, .int .i64 s, .int .i64 (N : Int), .int .i64 r, .int .i64 q] ∧ Bk W (w.heap.size + 1) 68 #[.int .i64 0, .int .i64 0, .slice none 0 0] ∧ Bel w W) := ⟨0, _, _, rfl, by omega, rfl, by simp, fun i hi => by omega, KQ, KS, HKB2.out.bel HBW.out, HKR2.out.bel HBW.out, HB2.out.tr HBW.out⟩
    have y2 := KS.cell 2
    simp at y2
    clear hW KQ KS k0 k1 k2 k0a k0b k1a k1b k2a k2b kz hmk
    go_wp2
    go_loopw [32] (fun s32 wr => ∃ (k : Nat) (V : World) (M : List Int), V = wr ∧ k ≤ N ∧ s32 = .int .i64 (k : Int) ∧ M.length = N ∧ (∀ i, i < k → M.getD i 0 = (vals l f s r q N).getD i 0) ∧ Bk wr (w2.heap.size) 3 (zs M).toArray ∧ Bk wr (w2.heap.size + 1) 68 #[.int .i64 f, .int .i64 s, .slice (some ⟨w2.heap.size, 0, none⟩) N N] ∧ Bk wr w.heap.size 72 #[.int .i64 f, .int .i64 s, .int .i64 (N : Int), .int .i64 r, .int .i64 q] ∧ Bk wr (w.heap.size + 1) 68 #[.int .i64 0, .int .i64 0, .slice none 0 0] ∧ Bel w wr) (fun s32 _ => N - (intOf s32).toNat)
    case atStart => exact HR0.out
    case round =>
      clear HR0 y2
      obtain ⟨k, wr, M, hwr, hk, rfl, hM, hval, kq, ks, kg, kn, hb⟩ := hrel
      subst hwr
      have HQ := Lib.hid (And.intro hM (And.intro hval (And.intro kq (And.intro ks (And.intro kg (And.intro kn hb))))))
      rcases Nat.lt_or_ge k N with hlt | hge
      · have g0 := kg.cell 0
        have g1 := kg.cell 1
        have g2 := kg.cell 2
        have g3 := kg.cell 3
        have g4 := kg.cell 4
        simp at g0 g1 g2 g3 g4
        have ht := HTM.out k hlt
        obtain ⟨T, hT⟩ : ∃ T, f + (k : Int) * s = T := ⟨_, rfl⟩
        obtain ⟨P, hP⟩ : ∃ P, (k : Int) * s = P := ⟨_, rfl⟩
        rw [hP] at hT
        rw [hP] at ht
        obtain ⟨p0, p1⟩ := ht
        have wP : wrap64 P = P := IntWalk.wrap64_in _ (by omega)
        have HV2 : Hid (∀ W, Bel w W → _) := fun W hW => HVL.out (f + P) W (by omega) (by omega) hW
        have hv : (vals l f s r q N).getD k 0 = vz (val l r q (f + P)) := by rw [vals_at _ _ _ _ _ _ _ hlt, hP]
        obtain ⟨x, hx⟩ : ∃ x, (val l r q (f + P)).1 = x := ⟨_, rfl⟩
        obtain ⟨y, hy⟩ : ∃ x, (val l r q (f + P)).2 = x := ⟨_, rfl⟩
        unfold vz at hv
        rw [hx, hy] at HV2
        rw [hx, hy] at hv
        have HVE := Lib.hid hv
        have ki : (k : Int) < (N : Int) := by omega
        clear hM hval kq ks kg kn hv hx hy hT
        go_wp2_with fail
        go_at_call 62
        refine (HV2.out _ (by first | exact hb | exact hb.drwN _ | exact hb.drw)).mono ?_
        rintro e w3 ⟨rfl, hb3⟩
        have HB3 : Hid (Bel wr w3) := by first | exact hb3 | exact (Bel.rf.drwN _).tr hb3 | exact Bel.rf.drw.tr hb3
        have KS3 := HQ.out.2.2.2.1.bel HB3.out
        have KQ3 := HQ.out.2.2.1.bel HB3.out
        have z2 := KS3.cell 2
        have q2 := KQ3.cell k
        have qf := KQ3.fr k
        rw [List.getElem?_toArray, zs_at (by rw [HQ.out.1]; exact hlt)] at q2
        simp at z2
        clear hb hb3 KS3 KQ3 g0 g1 g2 g3 g4
        rcases (show y = true ∨ y = false by cases y <;> simp) with rfl | rfl
        all_goals
          go_wp2
          go_roundw
          case rel =>
            refine ⟨k + 1, _, M.set k _, rfl, by omega, by go_num, by rw [List.length_set]; exact HQ.out.1, ?_, bk_set (HQ.out.2.2.1.bel HB3.out) k _, (HQ.out.2.2.2.1.bel HB3.out).far (by simp) _, (HQ.out.2.2.2.2.1.bel HB3.out).far (by simp; have := HSZ.out; omega) _, (HQ.out.2.2.2.2.2.1.bel HB3.out).far (by simp; have := HSZ.out; omega) _, (HQ.out.2.2.2.2.2.2.tr HB3.out).st (by simp; have := HSZ.out; omega) _⟩
            intro i hi
            rw [set_at]
            by_cases h9 : i = k
            · subst h9
              rw [if_pos ⟨rfl, by rw [HQ.out.1]; exact hlt⟩, HVE.out]
              simp
            · rw [if_neg (by omega)]
              exact HQ.out.2.1 i (by omega)
          case measure => simp [intOf]; omega
      · obtain rfl : k = N := by omega
        have hMV : M = vals l f s r q k := lists_eq (by rw [hM, vals_len]) (fun i hi => hval i (by omega))
        subst hMV
        have y0 := ks.cell 0
        have y1 := ks.cell 1
        have y2 := ks.cell 2
        have n0 := kn.cell 0
        have n1 := kn.cell 1
        have n2 := kn.cell 2
        have m0 := kn.fr 0
        have m1 := kn.fr 1
        have m2 := kn.fr 2
        simp at y0 y1 y2 n0 n1 n2
        clear hval kq ks kg kn hb hM
        go_wp2
        refine bodyPost_ret (v := .tuple #[.agg #[.int .i64 f, .int .i64 s, .slice (some ⟨w2.heap.size, 0, none⟩) k k], .int .i64 0]) (results_s Tryz.results35 _ _ (w.heap.size + 1) (.int .i64 f) (.int .i64 s) (.slice (some ⟨w2.heap.size, 0, none⟩) k k) rfl (((HQ.out.2.2.2.2.2.1.st 0 _).st 1 _).st 2 _)) rfl ?_
        exact ⟨_, rfl, by have := HSZ.out; omega, ((HQ.out.2.2.1.far (by simp; have := HSZ.out; omega) _).far (by simp; have := HSZ.out; omega) _).far (by simp; have := HSZ.out; omega) _, ((HQ.out.2.2.2.2.2.2.st (by simp) _).st (by simp) _).st (by simp) _⟩
  · generalize hW : ((w2.alloc (.cells #[.int .i64 f, .int .i64 s, .slice (some ⟨w2.heap.size + 1, 0, none⟩) N N] 68)).alloc (.cells (zs (List.replicate N 0)).toArray 3)).drew = W
    have HSZ : Hid (w.heap.size ≤ w2.heap.size ∧ w.heap.size + 1 < w2.heap.size) := ⟨HB2.out.size, kz⟩
    have KQ : Bk W (w2.heap.size + 1) 3 (zs (List.replicate N 0)).toArray := by rw [← hW]; exact Bk.nq _ _ _ (by simp) |>.drw
    have KS : Bk W (w2.heap.size) 68 #[.int .i64 f, .int .i64 s, .slice (some ⟨w2.heap.size + 1, 0, none⟩) N N] := by rw [← hW]; exact Bk.nw w2 _ _ |>.al _ |>.drw
    have HBW : Hid (Bel w2 W) := by show Bel _ _; rw [← hW]; exact ((Bel.rf.al _).al _).drw
    have HR0 : Hid (∃ (k : Nat) (V : World) (M : List Int), V = W ∧ k ≤ N ∧ Value.int IntKind.i64 0 = .int .i64 (k : Int) ∧ M.length = N ∧ (∀ i, i < k → M.getD i 0 = (vals l f s r q N).getD i 0) ∧ Bk W (w2.heap.size + 1) 3 (zs M).toArray ∧ Bk W (w2.heap.size) 68 #[.int .i64 f, .int .i64 s, .slice (some ⟨w2.heap.size + 1, 0, none⟩) N N] ∧ Bk W w.heap.size 72 #[.int .i64 f, .int .i64 s, .int .i64 (N : Int), .int .i64 r, .int .i64 q] ∧ Bk W (w.heap.size + 1) 68 #[.int .i64 0, .int .i64 0, .slice none 0 0] ∧ Bel w W) := ⟨0, _, _, rfl, by omega, rfl, by simp, fun i hi => by omega, KQ, KS, HKB2.out.bel HBW.out, HKR2.out.bel HBW.out, HB2.out.tr HBW.out⟩
    have y2 := KS.cell 2
    simp at y2
    clear hW KQ KS k0 k1 k2 k0a k0b k1a k1b k2a k2b kz hmk
    go_wp2
    go_loopw [32] (fun s32 wr => ∃ (k : Nat) (V : World) (M : List Int), V = wr ∧ k ≤ N ∧ s32 = .int .i64 (k : Int) ∧ M.length = N ∧ (∀ i, i < k → M.getD i 0 = (vals l f s r q N).getD i 0) ∧ Bk wr (w2.heap.size + 1) 3 (zs M).toArray ∧ Bk wr (w2.heap.size) 68 #[.int .i64 f, .int .i64 s, .slice (some ⟨w2.heap.size + 1, 0, none⟩) N N] ∧ Bk wr w.heap.size 72 #[.int .i64 f, .int .i64 s, .int .i64 (N : Int), .int .i64 r, .int .i64 q] ∧ Bk wr (w.heap.size + 1) 68 #[.int .i64 0, .int .i64 0, .slice none 0 0] ∧ Bel w wr) (fun s32 _ => N - (intOf s32).toNat)
    case atStart => exact HR0.out
    case round =>
      clear HR0 y2
      obtain ⟨k, wr, M, hwr, hk, rfl, hM, hval, kq, ks, kg, kn, hb⟩ := hrel
      subst hwr
      have HQ := Lib.hid (And.intro hM (And.intro hval (And.intro kq (And.intro ks (And.intro kg (And.intro kn hb))))))
      rcases Nat.lt_or_ge k N with hlt | hge
      · have g0 := kg.cell 0
        have g1 := kg.cell 1
        have g2 := kg.cell 2
        have g3 := kg.cell 3
        have g4 := kg.cell 4
        simp at g0 g1 g2 g3 g4
        have ht := HTM.out k hlt
        obtain ⟨T, hT⟩ : ∃ T, f + (k : Int) * s = T := ⟨_, rfl⟩
        obtain ⟨P, hP⟩ : ∃ P, (k : Int) * s = P := ⟨_, rfl⟩
        rw [hP] at hT
        rw [hP] at ht
        obtain ⟨p0, p1⟩ := ht
        have wP : wrap64 P = P := IntWalk.wrap64_in _ (by omega)
        have HV2 : Hid (∀ W, Bel w W → _) := fun W hW => HVL.out (f + P) W (by omega) (by omega) hW
        have hv : (vals l f s r q N).getD k 0 = vz (val l r q (f + P)) := by rw [vals_at _ _ _ _ _ _ _ hlt, hP]
        obtain ⟨x, hx⟩ : ∃ x, (val l r q (f + P)).1 = x := ⟨_, rfl⟩
        obtain ⟨y, hy⟩ : ∃ x, (val l r q (f + P)).2 = x := ⟨_, rfl⟩
        unfold vz at hv
        rw [hx, hy] at HV2
        rw [hx, hy] at hv
        have HVE := Lib.hid hv
        have ki : (k : Int) < (N : Int) := by omega
        clear hM hval kq ks kg kn hv hx hy hT
        go_wp2_with fail
        go_at_call 62
        refine (HV2.out _ (by first | exact hb | exact hb.drwN _ | exact hb.drw)).mono ?_
        rintro e w3 ⟨rfl, hb3⟩
        have HB3 : Hid (Bel wr w3) := by first | exact hb3 | exact (Bel.rf.drwN _).tr hb3 | exact Bel.rf.drw.tr hb3
        have KS3 := HQ.out.2.2.2.1.bel HB3.out
        have KQ3 := HQ.out.2.2.1.bel HB3.out
        have z2 := KS3.cell 2
        have q2 := KQ3.cell k
        have qf := KQ3.fr k
        rw [List.getElem?_toArray, zs_at (by rw [HQ.out.1]; exact hlt)] at q2
        simp at z2
        clear hb hb3 KS3 KQ3 g0 g1 g2 g3 g4
        rcases (show y = true ∨ y = false by cases y <;> simp) with rfl | rfl
        all_goals
          go_wp2
          go_roundw
          case rel =>
            refine ⟨k + 1, _, M.set k _, rfl, by omega, by go_num, by rw [List.length_set]; exact HQ.out.1, ?_, bk_set (HQ.out.2.2.1.bel HB3.out) k _, (HQ.out.2.2.2.1.bel HB3.out).far (by simp) _, (HQ.out.2.2.2.2.1.bel HB3.out).far (by simp; have := HSZ.out; omega) _, (HQ.out.2.2.2.2.2.1.bel HB3.out).far (by simp; have := HSZ.out; omega) _, (HQ.out.2.2.2.2.2.2.tr HB3.out).st (by simp; have := HSZ.out; omega) _⟩
            intro i hi
            rw [set_at]
            by_cases h9 : i = k
            · subst h9
              rw [if_pos ⟨rfl, by rw [HQ.out.1]; exact hlt⟩, HVE.out]
              simp
            · rw [if_neg (by omega)]
              exact HQ.out.2.1 i (by omega)
          case measure => simp [intOf]; omega
      · obtain rfl : k = N := by omega
        have hMV : M = vals l f s r q k := lists_eq (by rw [hM, vals_len]) (fun i hi => hval i (by omega))
        subst hMV
        have y0 := ks.cell 0
        have y1 := ks.cell 1
        have y2 := ks.cell 2
        have n0 := kn.cell 0
        have n1 := kn.cell 1
        have n2 := kn.cell 2
        have m0 := kn.fr 0
        have m1 := kn.fr 1
        have m2 := kn.fr 2
        simp at y0 y1 y2 n0 n1 n2
        clear hval kq ks kg kn hb hM
        go_wp2
        refine bodyPost_ret (v := .tuple #[.agg #[.int .i64 f, .int .i64 s, .slice (some ⟨w2.heap.size + 1, 0, none⟩) k k], .int .i64 0]) (results_s Tryz.results35 _ _ (w.heap.size + 1) (.int .i64 f) (.int .i64 s) (.slice (some ⟨w2.heap.size + 1, 0, none⟩) k k) rfl (((HQ.out.2.2.2.2.2.1.st 0 _).st 1 _).st 2 _)) rfl ?_
        exact ⟨_, rfl, by have := HSZ.out; omega, ((HQ.out.2.2.1.far (by simp; have := HSZ.out; omega) _).far (by simp; have := HSZ.out; omega) _).far (by simp; have := HSZ.out; omega) _, ((HQ.out.2.2.2.2.2.2.st (by simp) _).st (by simp) _).st (by simp) _⟩
end Go.Proofs.YtpbnabibnkohdaaGreatDoor.Rg
namespace Go.Proofs.YtpbnabibnkohdaaGreatDoor.Wi
open Go.ChangeShapes Go.WideShapes Go.RowKit Wo Sr
set_option linter.unusedVariables false
theorem bel_grown {w a b : World} {row : Option Nat} (h : Bel w a) (hg : a.grownBy b row) (hr : ∀ q, row = some q → w.heap.size ≤ q) : Bel w b := Below.grown h hg h.size hr
theorem own_base {w : World} {base size n : Nat} {e : TypeId} {v : Value} {xs : List Value} (h : w.ownsRow base e size v n xs) : ∀ q, v.ownBlock = some q → base ≤ q := fun q e => (h.lt q e).1
theorem zs_one (M : List Int) : ∀ u ∈ zs M, u.oneCell' = true := by
  intro u hu
  obtain ⟨x, _, rfl⟩ := List.mem_map.1 hu
  rfl
theorem zi_news {w : World} {ad : Addr} {m : Nat} {M : List Int} (hz : Zi w (some ad) m M) : ∀ j u, (zs M)[j]? = some u → w.cell? (ad.add j) = some u := by
  intro j u hu
  have hj : j < M.length := by
    rcases Nat.lt_or_ge j M.length with h | h
    · exact h
    · rw [List.getElem?_eq_none (by rw [zs_len]; exact h)] at hu; cases hu
  obtain ⟨ad', e, _, hcc⟩ := hz.2 (by have := hz.1; omega)
  cases e
  rw [zs_at hj] at hu
  cases hu
  exact hcc j (by have := hz.1; omega)
theorem run_app (w : World) (ty : TypeId) (base : Nat) (v : Value) (n : Nat) (L : List Int) (hown : w.ownsRow base 3 1 v n (zs L)) (ad : Addr) (m c : Nat) (M : List Int) (hz : Zi w (some ad) m M) (hn : n + m ≤ 1000000) (hbase : base ≤ w.heap.size) :
    ∃ v' w', (Builtin.append_ #[22, 22] ty #[v, .slice (some ad) m c]).run Tryz.prog w = .ok v' w' ∧ w'.ownsRow base 3 1 v' (n + m) (zs (L ++ M)) ∧ w.grownBy w' v.ownBlock ∧ (v'.ownBlock = v.ownBlock ∨ v'.ownBlock = some w.heap.size) := by
  obtain ⟨i0, hi0, hz0, hz1, hz2⟩ := info_parts info_int
  obtain ⟨v', w', hr, h2, h3, _, h5⟩ := run_append_own_at (P := Tryz.prog) w base 22 ty 3 i0 (.int .i64 0) 1 8 Tryz.underlying22 hi0 hz0 hz1 hz2 (by rfl) (by omega) v n (zs L) hown ad m c (zs M) (by rw [zs_len, hz.1]; omega) (zi_news hz) (zs_one M) (by unfold maxLen; omega) (by omega) hbase
  exact ⟨v', w', hr, by rw [zs_app]; exact h2, h3, h5⟩
theorem wp_app (w : World) {o : Oper} {a : Act} {K : Act → World → Prop} {Q : Exit → Act → World → Prop} (s x : Operand)
    (ho : o.op = .call { callee := .builtin .append, args := #[s, x], argTypes := #[22, 22] })
    (base : Nat) (v : Value) (n : Nat) (L : List Int) (hs : a.eval s = v) (hown : w.ownsRow base 3 1 v n (zs L)) (ad : Addr) (m c : Nat) (M : List Int) (hx : a.eval x = .slice (some ad) m c) (hz : Zi w (some ad) m M) (hn : n + m ≤ 1000000) (hbase : base ≤ w.heap.size)
    (h : ∀ v' w', w'.ownsRow base 3 1 v' (n + m) (zs (L ++ M)) → w.grownBy w' v.ownBlock → (v'.ownBlock = v.ownBlock ∨ v'.ownBlock = some w.heap.size) → K (a.put o.dst v') w') : o.wp Tryz.prog a w K Q := by
  obtain ⟨v', w', hr, h2, h3, h5⟩ := run_app w o.type base v n L hown ad m c M hz hn hbase
  unfold Oper.wp execOp
  simp only [ho, resolve, invoke, builtin, Sem.run_bind, Sem.run_pure, Result.andThen_ok, List.map_toArray, List.map_cons, List.map_nil, hs, hx, hr]
  exact h v' w' h2 h3 h5
theorem step_app (w : World) {ops : Array Oper} {o : Oper} {a : Act} {K : Act → World → Prop} {Q : Exit → Act → World → Prop} {E : Prop} (hgd : o.guard = none) (s x : Operand)
    (ho : o.op = .call { callee := .builtin .append, args := #[s, x], argTypes := #[22, 22] })
    (base : Nat) (v : Value) (n : Nat) (L : List Int) (hs : a.eval s = v) (hown : w.ownsRow base 3 1 v n (zs L)) (ad : Addr) (m c : Nat) (M : List Int) (hx : a.eval x = .slice (some ad) m c) (hz : Zi w (some ad) m M) (hn : n + m ≤ 1000000) (hbase : base ≤ w.heap.size)
    (h : ∀ v' w', w'.ownsRow base 3 1 v' (n + m) (zs (L ++ M)) → w.grownBy w' v.ownBlock → (v'.ownBlock = v.ownBlock ∨ v'.ownBlock = some w.heap.size) → K (a.put o.dst v') w') :
    if Region.wanted o (yielded ops a.tmps) = true then Oper.wp Tryz.prog o a w K Q else E := by
  have hw : Region.wanted o (yielded ops a.tmps) = true := by simp [Region.wanted, hgd]
  rw [if_pos hw]
  exact wp_app w s x ho base v n L hs hown ad m c M hx hz hn hbase h
theorem list_app (w : World) {ops : Array Oper} {rest : List Oper} {o : Oper} {a : Act} {Q : Exit → Act → World → Prop} (hgd : o.guard = none) (s x : Operand)
    (ho : o.op = .call { callee := .builtin .append, args := #[s, x], argTypes := #[22, 22] })
    (base : Nat) (v : Value) (n : Nat) (L : List Int) (hs : a.eval s = v) (hown : w.ownsRow base 3 1 v n (zs L)) (ad : Addr) (m c : Nat) (M : List Int) (hx : a.eval x = .slice (some ad) m c) (hz : Zi w (some ad) m M) (hn : n + m ≤ 1000000) (hbase : base ≤ w.heap.size)
    (h : ∀ v' w', w'.ownsRow base 3 1 v' (n + m) (zs (L ++ M)) → w.grownBy w' v.ownBlock → (v'.ownBlock = v.ownBlock ∨ v'.ownBlock = some w.heap.size) → wpList Tryz.prog ops Q rest (a.put o.dst v') w') : wpList Tryz.prog ops Q (o :: rest) a w :=
  wpList_plain hgd fun _ hK => wp_app w s x ho base v n L hs hown ad m c M hx hz hn hbase fun v' w' h2 h3 h5 => hK _ _ (h v' w' h2 h3 h5)
theorem own_made {base : Nat} (W : World) (q : Nat) (hq : W.heap.size = q) (hb : base ≤ q) : (W.alloc (.cells #[] 3)).ownsRow base 3 1 (.slice (some ⟨q, 0, none⟩) 0 0) 0 (zs []) := by
  subst hq
  exact World.ownsRow_made (base := base) (e := 3) (size := 1) W #[] 0 hb (by unfold maxLen; omega) rfl
theorem zi_none {W : World} {A : Option Addr} : Zi W A 0 [] := ⟨rfl, fun h => by omega⟩
theorem zi_part {w : World} {h N : Nat} {Z : List Int} (hz : Zi w (some ⟨h, 0, none⟩) N Z) (i n : Nat) (hi : i + n ≤ N) : Zi w (some ⟨h, i, none⟩) n ((Z.drop i).take n) := by
  have hl := hz.1
  refine ⟨by simp; omega, fun hn => ?_⟩
  obtain ⟨ad, e, hx, _⟩ := hz.2 (by omega)
  cases e
  refine ⟨_, rfl, hx, fun j hj => ?_⟩
  have := hz.at (i + j) (by omega)
  rw [show (⟨h, i, none⟩ : Addr).add j = ⟨h, i + j, none⟩ by unfold Addr.add; split <;> simp_all, this]
  simp [List.getD_eq_getElem?_getD, hj]
end Go.Proofs.YtpbnabibnkohdaaGreatDoor.Wi
namespace Go.Proofs.YtpbnabibnkohdaaGreatDoor.Se
set_option linter.unusedVariables false
/-- what the iterator of runs yields from the place i on, with c values in a row behind it -/
def rns : List Int → Nat → Nat → List (Nat × Nat)
  | [], i, c => if 0 < c then [(i - c, c)] else []
  | v :: vs, i, c => if v = 1073741824 then (if 0 < c then (i - c, c) :: rns vs (i + 1) 0 else rns vs (i + 1) 0) else rns vs (i + 1) (c + 1)
def pres (V : List Int) (i : Nat) : Bool := decide (V.getD i 1073741824 ≠ 1073741824)
/-- a window of m values begins at i -/
def good (V : List Int) (m i : Nat) : Bool := decide (i + m ≤ V.length ∧ ∀ j, j < m → V.getD (i + j) 1073741824 ≠ 1073741824)
/-- the starts that a run gives -/
def ofRun (m : Nat) (r : Nat × Nat) : List Nat := (List.range (r.2 + 1 - m)).map (r.1 + ·)
def sts (V : List Int) (m : Nat) : List Nat := (rns V 0 0).flatMap (ofRun m)
theorem good_iff {V : List Int} {m i : Nat} : good V m i = true ↔ (i + m ≤ V.length ∧ ∀ j, j < m → V.getD (i + j) 1073741824 ≠ 1073741824) := by
  unfold good; exact decide_eq_true_iff
theorem filt {p : Nat → Bool} (a c m : Nat) (hm : 1 ≤ m) (h : ∀ s, a ≤ s → s ≤ a + c → (p s = true ↔ s + m ≤ a + c)) : (List.range' a (c + 1)).filter p = ofRun m (a, c) := by
  unfold ofRun
  have e : c + 1 = (c + 1 - m) + (c + 1 - (c + 1 - m)) := by omega
  rw [e, ← List.range'_append_1, List.filter_append]
  have h1 : (List.range' a (c + 1 - m)).filter p = List.range' a (c + 1 - m) := by
    apply List.filter_eq_self.2
    intro x hx
    rw [List.mem_range'_1] at hx
    exact (h x (by omega) (by omega)).2 (by omega)
  have h2 : (List.range' (a + (c + 1 - m)) (c + 1 - (c + 1 - m))).filter p = [] := by
    apply List.filter_eq_nil_iff.2
    intro x hx hp
    rw [List.mem_range'_1] at hx
    have := (h x (by omega) (by omega)).1 hp
    omega
  rw [h1, h2, List.append_nil]
  have e2 : (c + 1 - m) + (c + 1 - (c + 1 - m)) - m = c + 1 - m := by omega
  show _ = List.map (a + ·) (List.range (c + 1 - m + (c + 1 - (c + 1 - m)) - m))
  rw [e2, List.range'_eq_map_range]
theorem getD_out (V : List Int) (i : Nat) (h : V.length ≤ i) : V.getD i 1073741824 = 1073741824 := by
  rw [List.getD_eq_getElem?_getD, List.getElem?_eq_none h]; rfl
theorem sts_from (W : List Int) (m : Nat) (hm : 1 ≤ m) : ∀ (vs : List Int) (i c : Nat), W.drop i = vs → W.length = i + vs.length → c ≤ i → (∀ q, i - c ≤ q → q < i → W.getD q 1073741824 ≠ 1073741824) → (rns vs i c).flatMap (ofRun m) = (List.range' (i - c) (W.length + 1 - (i - c))).filter (good W m)
  | [], i, c, hd, hl, hc, hp => by
    have hl : W.length = i := by simpa using hl
    have e : W.length + 1 - (i - c) = c + 1 := by omega
    rw [e, filt (i - c) c m hm]
    · unfold rns
      split
      · simp
      · have : c = 0 := by omega
        subst this
        simp [ofRun]
        omega
    · intro s h1 h2
      rw [good_iff]
      constructor
      · intro h; omega
      · intro h; exact ⟨by omega, fun j hj => hp _ (by omega) (by omega)⟩
  | v :: vs, i, c, hd, hl, hc, hp => by
    have hl : W.length = i + 1 + vs.length := by simp at hl; omega
    have hil : i < W.length := by omega
    have hv : W.getD i 1073741824 = v := by
      rw [List.getD_eq_getElem?_getD, List.getElem?_eq_getElem hil]
      rw [List.drop_eq_getElem_cons hil] at hd
      injection hd
    have hd2 : W.drop (i + 1) = vs := by
      rw [List.drop_eq_getElem_cons hil] at hd
      injection hd
    unfold rns
    by_cases hvm : v = 1073741824
    · rw [if_pos hvm]
      have ih := sts_from W m hm vs (i + 1) 0 hd2 hl (by omega) (fun q h1 h2 => by omega)
      have e : W.length + 1 - (i - c) = (c + 1) + (W.length + 1 - (i + 1)) := by omega
      have e1 : i - c + (c + 1) = i + 1 := by omega
      have hf : (List.range' (i - c) (c + 1)).filter (good W m) = ofRun m (i - c, c) := by
        apply filt (i - c) c m hm
        intro s h1 h2
        rw [good_iff]
        constructor
        · intro h
          rcases Nat.lt_or_ge (i - c + c) (s + m) with h3 | h3
          · exfalso
            have := h.2 (i - s) (by omega)
            rw [show s + (i - s) = i by omega, hv] at this
            exact this hvm
          · omega
        · intro h; exact ⟨by omega, fun j hj => hp _ (by omega) (by omega)⟩
      rw [e, ← List.range'_append_1, List.filter_append, hf, e1]
      rw [Nat.sub_zero] at ih
      rw [← ih]
      split
      · simp
      · have : c = 0 := by omega
        subst this
        have : ofRun m (i - 0, 0) = [] := by simp [ofRun]; omega
        rw [this]; rfl
    · rw [if_neg hvm]
      have ih := sts_from W m hm vs (i + 1) (c + 1) hd2 hl (by omega) (fun q h1 h2 => by
        rcases Nat.lt_or_ge q i with h3 | h3
        · exact hp q (by omega) h3
        · rw [show q = i by omega, hv]; exact hvm)
      rw [show i + 1 - (c + 1) = i - c by omega] at ih
      exact ih
theorem sts_eq (V : List Int) (m : Nat) (hm : 1 ≤ m) : sts V m = (List.range (V.length + 1)).filter (good V m) := by
  have := sts_from V m hm V 0 0 rfl (by omega) (by omega) (fun q h1 h2 => by omega)
  rw [List.range_eq_range']
  exact this
theorem sts_mem {V : List Int} {m i : Nat} (hm : 1 ≤ m) : i ∈ sts V m ↔ good V m i = true := by
  rw [sts_eq V m hm, List.mem_filter, List.mem_range]
  constructor
  · intro h; exact h.2
  · intro h; exact ⟨by have := (good_iff.1 h).1; omega, h⟩
theorem sts_asc (V : List Int) (m : Nat) (hm : 1 ≤ m) : (sts V m).Pairwise (· < ·) := by
  rw [sts_eq V m hm]
  exact List.pairwise_lt_range.filter _
theorem sts_lt {V : List Int} {m : Nat} (hm : 1 ≤ m) {i : Nat} (hi : i + 1 < (sts V m).length) : (sts V m).getD i 0 < (sts V m).getD (i + 1) 0 := by
  have h := List.pairwise_iff_getElem.1 (sts_asc V m hm) i (i + 1) (by omega) hi (by omega)
  simp only [List.getD_eq_getElem?_getD, List.getElem?_eq_getElem (show i < (sts V m).length by omega), List.getElem?_eq_getElem hi]
  exact h
theorem good_less {V : List Int} {m i : Nat} (h : good V (m + 1) i = true) : good V m i = true := by
  rw [good_iff] at h ⊢
  exact ⟨by omega, fun j hj => h.2 j (by omega)⟩
theorem filter_len {p q : Nat → Bool} (h : ∀ x, p x = true → q x = true) : ∀ l : List Nat, (l.filter p).length ≤ (l.filter q).length
  | [] => Nat.le_refl _
  | y :: l => by
    have ih := filter_len h l
    rw [List.filter_cons, List.filter_cons]
    cases hp : p y
    · rw [if_neg (by decide)]
      split
      · rw [List.length_cons]; omega
      · exact ih
    · rw [h y hp, if_pos rfl, if_pos rfl, List.length_cons, List.length_cons]; omega
theorem sts_len (V : List Int) (m : Nat) (hm : 1 ≤ m) : (sts V (m + 1)).length ≤ (sts V m).length := by
  rw [sts_eq V m hm, sts_eq V (m + 1) (by omega)]
  exact filter_len (fun x h => good_less h) _
theorem sts_small (V : List Int) (m : Nat) (hm : 1 ≤ m) : (sts V m).length ≤ V.length + 1 := by
  rw [sts_eq V m hm]
  have := List.length_filter_le (good V m) (List.range (V.length + 1))
  simpa using this
theorem sts_in {V : List Int} {m : Nat} (hm : 1 ≤ m) (x : Nat) (hx : x ∈ sts V m) : x + m ≤ V.length := by
  rw [sts_mem hm, good_iff] at hx
  exact hx.1
/-- how many values are there -/
def cnt (V : List Int) : Nat := V.countP (fun v => decide (v ≠ 1073741824))
theorem rns_sum : ∀ (vs : List Int) (i c : Nat), ((rns vs i c).map Prod.snd).sum = c + cnt vs
  | [], i, c => by
    unfold rns cnt
    split
    · simp
    · have : c = 0 := by omega
      subst this; simp
  | v :: vs, i, c => by
    unfold rns
    by_cases hv : v = 1073741824
    · rw [if_pos hv]
      have ih := rns_sum vs (i + 1) 0
      have e : cnt (v :: vs) = cnt vs := by simp [cnt, hv]
      rw [e]
      split
      · simp [ih]
      · have : c = 0 := by omega
        subst this; simp [ih]
    · rw [if_neg hv, rns_sum vs (i + 1) (c + 1)]
      have e : cnt (v :: vs) = cnt vs + 1 := by simp [cnt, hv]
      rw [e]; omega
theorem sts_one (V : List Int) : (sts V 1).length = cnt V := by
  have := rns_sum V 0 0
  unfold sts
  rw [List.length_flatMap]
  have e : (rns V 0 0).map (fun a => (ofRun 1 a).length) = (rns V 0 0).map Prod.snd := by
    apply List.map_congr_left
    intro a _
    simp [ofRun]
  rw [e, this]; omega
theorem cnt_app (A B : List Int) : cnt (A ++ B) = cnt A + cnt B := by simp [cnt]
theorem cnt_rep (k : Nat) : cnt (List.replicate k 1073741824) = 0 := by
  unfold cnt
  rw [List.countP_replicate]
  simp
/-- runs in order: each behind the end e of the one before it, with the values there -/
def Asc (W : List Int) : Int → List (Nat × Nat) → Prop
  | _, [] => True
  | e, r :: rs => e < (r.1 : Int) ∧ 1 ≤ r.2 ∧ r.1 + r.2 ≤ W.length ∧ (∀ j, j < r.2 → W.getD (r.1 + j) 1073741824 ≠ 1073741824) ∧ Asc W ((r.1 : Int) + r.2) rs
theorem asc_from (W : List Int) : ∀ (vs : List Int) (i c : Nat) (e : Int), W.drop i = vs → W.length = i + vs.length → c ≤ i → (∀ q, i - c ≤ q → q < i → W.getD q 1073741824 ≠ 1073741824) → e < ((i - c : Nat) : Int) → Asc W e (rns vs i c)
  | [], i, c, e, hd, hl, hc, hp, he => by
    have hl : W.length = i := by simpa using hl
    unfold rns
    split
    · exact ⟨he, by omega, by show i - c + c ≤ _; omega, fun j hj => hp _ (by show i - c ≤ i - c + j; omega) (by show i - c + j < i; have : j < c := hj; omega), trivial⟩
    · trivial
  | v :: vs, i, c, e, hd, hl, hc, hp, he => by
    have hl : W.length = i + 1 + vs.length := by simp at hl; omega
    have hil : i < W.length := by omega
    have hv : W.getD i 1073741824 = v := by
      rw [List.getD_eq_getElem?_getD, List.getElem?_eq_getElem hil]
      rw [List.drop_eq_getElem_cons hil] at hd
      injection hd
    have hd2 : W.drop (i + 1) = vs := by
      rw [List.drop_eq_getElem_cons hil] at hd
      injection hd
    unfold rns
    by_cases hvm : v = 1073741824
    · rw [if_pos hvm]
      split
      · exact ⟨he, by omega, by show i - c + c ≤ _; omega, fun j hj => hp _ (by show i - c ≤ i - c + j; omega) (by show i - c + j < i; have : j < c := hj; omega), asc_from W vs (i + 1) 0 _ hd2 hl (by omega) (fun q h1 h2 => by omega) (by show ((i - c : Nat) : Int) + (c : Int) < _; omega)⟩
      · exact asc_from W vs (i + 1) 0 e hd2 hl (by omega) (fun q h1 h2 => by omega) (by omega)
    · rw [if_neg hvm]
      exact asc_from W vs (i + 1) (c + 1) e hd2 hl (by omega) (fun q h1 h2 => by
        rcases Nat.lt_or_ge q i with h3 | h3
        · exact hp q (by omega) h3
        · rw [show q = i by omega, hv]; exact hvm) (by omega)
theorem asc_all (V : List Int) : Asc V (-1) (rns V 0 0) := asc_from V V 0 0 (-1) rfl (by omega) (by omega) (fun q h1 h2 => by omega) (by omega)
/-- a window of a cut is one of the series -/
theorem good_drop {V : List Int} {m i j : Nat} (hi : i ≤ V.length) : good (V.drop i) m j = good V m (i + j) := by
  unfold good
  congr 1
  apply propext
  have e : ∀ q, (V.drop i).getD q 1073741824 = V.getD (i + q) 1073741824 := fun q => by simp [List.getD_eq_getElem?_getD]
  rw [List.length_drop]
  constructor
  · rintro ⟨h1, h2⟩
    exact ⟨by omega, fun q hq => by have := h2 q hq; rwa [e, ← Nat.add_assoc] at this⟩
  · rintro ⟨h1, h2⟩
    exact ⟨by omega, fun q hq => by rw [e, ← Nat.add_assoc]; exact h2 q hq⟩
end Go.Proofs.YtpbnabibnkohdaaGreatDoor.Se
namespace Go.Proofs.YtpbnabibnkohdaaGreatDoor.Se
open Go.ChangeShapes Go.WideShapes Go.RowKit Wo Sr Wi
set_option linter.unusedVariables false
/-- values: samples, or missing -/
def Sv (L : List Int) : Prop := ∀ x ∈ L, (-1000 ≤ x ∧ x ≤ 1000) ∨ x = 1073741824
theorem Sv.take {L : List Int} (h : Sv L) (n : Nat) : Sv (L.take n) := fun x hx => h x (List.mem_of_mem_take hx)
theorem Sv.drop {L : List Int} (h : Sv L) (n : Nat) : Sv (L.drop n) := fun x hx => h x (List.mem_of_mem_drop hx)
theorem Sv.app {L M : List Int} (h : Sv L) (k : Sv M) : Sv (L ++ M) := fun x hx => (List.mem_append.1 hx).elim (h x) (k x)
theorem Sv.rep (n : Nat) : Sv (List.replicate n 1073741824) := fun x hx => .inr (List.eq_of_mem_replicate hx)
theorem Sv.at {L : List Int} (h : Sv L) {i : Nat} (hi : i < L.length) : (-1000 ≤ L.getD i 0 ∧ L.getD i 0 ≤ 1000) ∨ L.getD i 0 = 1073741824 := by
  rw [List.getD_eq_getElem?_getD, List.getElem?_eq_getElem hi]
  exact h _ (List.getElem_mem hi)
theorem sample_no (w : World) : Calls Tryz.prog 69 #[.int .i64 1073741824] w fun e w' => e = .returned (.bool false) ∧ w = w' := by
  go_enter Tryz.func69, Tryz.ntmps69
  go_wp2
  go_ret
  exact ⟨rfl, rfl⟩
set_option maxHeartbeats 4000000 in
theorem values_ok (A : Option Addr) (c n : Nat) (L : List Int) (hn : n ≤ 3000) (hs : Sv L) (w : World) (h : Zi w A n L) :
    Calls Tryz.prog 92 #[.slice A n c] w fun e w' => e = .returned (.bool true) ∧ Bel w w' := by
  have H1 := Lib.hid h
  have HS := Lib.hid hs
  have ni : (n : Int) ≤ 3000 := by omega
  clear h hs
  go_enter Tryz.func92, Tryz.ntmps92
  go_wp2
  go_loopw [7] (fun s7 wr => ∃ (k : Nat) (V : World), V = wr ∧ k ≤ n ∧ s7 = .int .i64 (k : Int) ∧ Bel w wr) (fun s7 _ => n - (intOf s7).toNat)
  case atStart => exact ⟨0, _, rfl, by omega, rfl, Bel.rf⟩
  case round =>
    obtain ⟨k, wr, hwr, hk, rfl, hb⟩ := hrel
    subst hwr
    have HB := Lib.hid hb
    rcases Nat.lt_or_ge k n with hlt | hge
    · obtain ⟨ad, rfl, hab, hac⟩ := (H1.out.bel hb).2 (by omega)
      have c1 := hac k hlt
      have hx := HS.out.at (i := k) (by have := H1.out.1; omega)
      obtain ⟨x, hxe⟩ : ∃ x, L.getD k 0 = x := ⟨_, rfl⟩
      rw [hxe] at c1 hx
      have ki : (k : Int) < (n : Int) := by omega
      clear hb hac hab hxe
      rcases hx with ⟨x0, x1⟩ | rfl
      · go_wp2_with (go_at_call 69; refine (sample_ok x x0 x1 _).mono ?_; rintro e w' ⟨rfl, rfl⟩)
        go_roundw
        case rel => exact ⟨k + 1, _, rfl, by omega, by go_num, by first | exact HB.out | exact HB.out.drwN _ | exact HB.out.drw⟩
        case measure => simp [intOf]; omega
      · go_wp2_with (go_at_call 69; refine (sample_no _).mono ?_; rintro e w' ⟨rfl, rfl⟩)
        go_roundw
        case rel => exact ⟨k + 1, _, rfl, by omega, by go_num, by first | exact HB.out | exact HB.out.drwN _ | exact HB.out.drw⟩
        case measure => simp [intOf]; omega
    · obtain rfl : k = n := by omega
      clear hb
      go_wp2
      go_ret
      exact ⟨rfl, HB.out⟩
/-- a series within these bounds -/
def Sb (st sp : Int) (n : Nat) : Prop := 0 ≤ st ∧ st ≤ 1000000 ∧ 1 ≤ sp ∧ sp ≤ 20 ∧ n ≤ 2000
theorem sb_mul {sp : Int} {n : Nat} (h0 : 1 ≤ sp) (h1 : sp ≤ 20) (hn : n ≤ 3000) : 0 ≤ sp * (n : Int) ∧ sp * (n : Int) ≤ 60000 := by
  have a := Int.mul_le_mul_of_nonneg_right h1 (show (0 : Int) ≤ (n : Int) by omega)
  exact ⟨Int.mul_nonneg (by omega) (by omega), by omega⟩
theorem end_ok (st sp : Int) (A : Option Addr) (n c : Nat) (h : Sb st sp n) (w : World) :
    Calls Tryz.prog 93 #[.agg #[.int .i64 st, .int .i64 sp, .slice A n c]] w fun e w' => e = .returned (.int .i64 (st + sp * (n : Int))) ∧ Bel w w' := by
  obtain ⟨a1, a2, a3, a4, a5⟩ := h
  obtain ⟨p, hp⟩ : ∃ p, sp * (n : Int) = p := ⟨_, rfl⟩
  obtain ⟨p0, p1⟩ := sb_mul a3 a4 (show n ≤ 3000 by omega)
  rw [hp] at p0 p1 ⊢
  have wp1 : IntKind.i64.wrap p = p := IntWalk.i64_in _ (by omega)
  have wp2 : IntKind.i64.wrap (st + p) = st + p := IntWalk.i64_in _ (by omega)
  go_enter Tryz.func93, Tryz.ntmps93
  go_wp2
  go_ret
  exact ⟨rfl, Bel.rf.al _⟩
set_option maxHeartbeats 4000000 in
theorem valid_ok (st sp : Int) (A : Option Addr) (n c : Nat) (L : List Int) (h : Sb st sp n) (hs : Sv L) (w : World) (hz : Zi w A n L) :
    Calls Tryz.prog 63 #[.agg #[.int .i64 st, .int .i64 sp, .slice A n c]] w fun e w' => e = .returned (.bool true) ∧ Bel w w' := by
  have EN : Hid (∀ W, _) := fun W => end_ok st sp A n c h W
  have VL : Hid (∀ W, Zi W A n L → _) := fun W hW => values_ok A c n L (by have := h.2.2.2.2; omega) hs W hW
  have HZ := Lib.hid hz
  obtain ⟨a1, a2, a3, a4, a5⟩ := h
  obtain ⟨p0, p1⟩ := sb_mul a3 a4 (show n ≤ 3000 by omega)
  obtain ⟨p, hp⟩ : ∃ p, st + sp * (n : Int) = p := ⟨_, rfl⟩
  have pb : p ≤ 2199023255552 := by omega
  rw [hp] at EN
  have ni : (n : Int) ≤ 2000 := by omega
  have HK := Lib.hid (Bk.nw w 68 #[.int .i64 st, .int .i64 sp, .slice A n c])
  clear hs hz hp p0 p1
  go_enter Tryz.func63, Tryz.ntmps63
  go_wp2_with fail
  go_at_call 92
  refine (VL.out _ (HZ.out.bel (Bel.rf.al _))).mono ?_
  rintro e w2 ⟨rfl, hb2⟩
  have B2 := HK.out.bel hb2
  have d0 := B2.cell 0
  have d1 := B2.cell 1
  have d2 := B2.cell 2
  have dl := B2.lt
  have HB2 := Lib.hid hb2
  clear B2 hb2
  go_wp2_with fail
  go_at_call 93
  refine (EN.out _).mono ?_
  rintro e w3 ⟨rfl, hb3⟩
  have HB3 := Lib.hid hb3
  clear hb3
  go_wp2
  go_ret
  exact ⟨rfl, (Bel.rf.al _).tr (HB2.out.tr HB3.out)⟩
theorem runs_ok (A : Option Addr) (n c : Nat) (w : World) :
    Calls Tryz.prog 95 #[.slice A n c] w fun e w' => e = .returned (.func (.func 120) #[] #[.pointer (some ⟨w.heap.size, 0, none⟩)]) ∧ w' = w.alloc (.cells #[.slice A n c] 22) := by
  go_enter Tryz.func95, Tryz.ntmps95
  go_wp2
  go_ret
  exact ⟨rfl, rfl⟩
end Go.Proofs.YtpbnabibnkohdaaGreatDoor.Se
namespace Go.Proofs.YtpbnabibnkohdaaGreatDoor.Se
open Go.ChangeShapes Go.WideShapes Go.RowKit Wo Sr Wi
set_option linter.unusedVariables false
/-- the values of a series, as they lie -/
def Vs (w : World) (A : Option Addr) (n c : Nat) (L : List Int) : Prop := Zi w A n L ∧ n ≤ c ∧ ((A = none ∧ c = 0) ∨ ∃ h, A = some ⟨h, 0, none⟩)
theorem Vs.bel {w w' : World} {A : Option Addr} {n c : Nat} {L : List Int} (h : Vs w A n c L) (hb : Bel w w') : Vs w' A n c L := ⟨h.1.bel hb, h.2⟩
theorem Vs.far {w : World} {A : Option Addr} {n c : Nat} {L : List Int} (h : Vs w A n c L) {q : Addr} (hn : ∀ ad, A = some ad → ad.block ≠ q.block) (u : Value) : Vs (w.setCell q u) A n c L :=
  ⟨⟨h.1.1, fun h0 => by
    obtain ⟨ad, e, hx, hc⟩ := h.1.2 h0
    exact ⟨ad, e, by simpa [World.setCell] using hx, fun j hj => (World.cell?_setCell_other _ _ _ _ (fun e2 => hn ad e (by rw [← add_block ad j, ← e2]))).trans (hc j hj)⟩⟩, h.2⟩
theorem own_vs {w : World} {base n : Nat} {v : Value} {L : List Int} (h : w.ownsRow base 3 1 v n (zs L)) (hl : L.length = n) : ∃ A c, v = .slice A n c ∧ Vs w A n c L ∧ ∀ ad, A = some ad → base ≤ ad.block := by
  obtain ⟨A, c, rfl, hz, hA⟩ := row_zi h hl
  refine ⟨A, c, rfl, ⟨hz, ?_⟩, fun ad e => by subst e; exact (h.lt ad.block rfl).1⟩
  rcases h.2 with ⟨e, h0⟩ | ⟨g, cap, cur, e, _, _, hc, _⟩
  · injection e with e1 e2 e3
    subst e1 e3
    exact ⟨by omega, .inl ⟨rfl, rfl⟩⟩
  · injection e with e1 e2 e3
    subst e1 e3
    exact ⟨hc, .inr ⟨g, rfl⟩⟩
def SomeVs (k : Nat) (Z : List Int) (w : World) (e : Ending) (w' : World) : Prop := ∃ A c, e = .returned (.slice A k c) ∧ Vs w' A k c Z ∧ (∀ ad, A = some ad → w.heap.size ≤ ad.block) ∧ Bel w w'
/-- a number that is looked for -/
def SomeIdx (b : Bool) (w : World) (e : Ending) (w' : World) : Prop := ∃ r : Int, e = .returned (.int .i64 r) ∧ -1 ≤ r ∧ r ≤ 3000 ∧ decide (0 ≤ r) = b ∧ Bel w w'
end Go.Proofs.YtpbnabibnkohdaaGreatDoor.Se
namespace Go.Proofs.YtpbnabibnkohdaaGreatDoor.Se
open Go.ChangeShapes Go.WideShapes Go.RowKit Wo Sr Wi
set_option linter.unusedVariables false
theorem results_s1 {fn : Func} {p : Tmp} (h : fn.results = #[.cell p 68]) (tmps : Array Value) (w : World) (g : Nat) (a b c : Value)
    (hp : tmps.getD p undef = .pointer (some ⟨g, 0, none⟩)) (hg : Bk w g 68 #[a, b, c]) :
    (results fn tmps).run Tryz.prog w = .ok (.agg #[a, b, c]) w := by
  have hp' : tmps[p]?.getD undef = .pointer (some ⟨g, 0, none⟩) := by simpa using hp
  have hl := run_loadVar_row (P := Tryz.prog) w g 68 68 #[a, b, c] (0, 0) _ hg Tryz.underlying68 rfl (by kernel_rfl)
  simp [results, h, hp', asAddr, hl]
theorem results_s2 {fn : Func} {p u : Tmp} (h : fn.results = #[.cell p 68, .tmp u]) (tmps : Array Value) (w : World) (g : Nat) (a b c : Value)
    (hp : tmps.getD p undef = .pointer (some ⟨g, 0, none⟩)) (hg : Bk w g 68 #[a, b, c]) :
    (results fn tmps).run Tryz.prog w = .ok (.tuple #[.agg #[a, b, c], tmps.getD u undef]) w := by
  have hp' : tmps[p]?.getD undef = .pointer (some ⟨g, 0, none⟩) := by simpa using hp
  have hl := run_loadVar_row (P := Tryz.prog) w g 68 68 #[a, b, c] (0, 0) _ hg Tryz.underlying68 rfl (by kernel_rfl)
  simp [results, h, hp', asAddr, hl]
/-- what a window is, and its error -/
def wz (L : List Int) (i m : Nat) : List Int := if good L m i then (L.drop i).take m else []
def we (L : List Int) (i m : Nat) : Int := if good L m i then 0 else if i + m ≤ L.length then 13 else 1
def SomeWin (L : List Int) (i m : Nat) (w : World) (e : Ending) (w' : World) : Prop := ∃ (A : Option Addr) (k c : Nat), e = .returned (.tuple #[.slice A k c, .int .i64 (we L i m)]) ∧ k = (wz L i m).length ∧ Zi w' A k (wz L i m) ∧ Bel w w'
theorem zi_cut {w : World} {h i k n : Nat} {L : List Int} (hz : Zi w (some ⟨h, 0, none⟩) n L) (hi : i + k ≤ n) : Zi w (some ⟨h, i, none⟩) k ((L.drop i).take k) := zi_part hz i k hi
theorem part_len {L : List Int} {i k : Nat} (h : i + k ≤ L.length) : ((L.drop i).take k).length = k := by simp; omega
end Go.Proofs.YtpbnabibnkohdaaGreatDoor.Se
namespace Go.Proofs.YtpbnabibnkohdaaGreatDoor.Se
open Go.RowKit Go.Shelf Wo Sr Wi
set_option linter.unusedVariables false
attribute [local go_sem] Oper.semAt_some
/-- a run within bounds -/
abbrev Rn := {r : Nat × Nat // r.1 + r.2 ≤ 3000}
def rv (l : List Rn) : List (Nat × Nat) := l.map Subtype.val
theorem rv_snoc (l : List Rn) (x : Rn) : rv (l ++ [x]) = rv l ++ [x.1] := by simp [rv]
/-- a run, as it is yielded -/
def encr (r : Rn) : Array Value := #[.agg #[.int .i64 (r.1.1 : Int), .int .i64 (r.1.2 : Int)]]
/-- the blocks below n₀ are as they were, but one -/
def Kq (n₀ Bo : Nat) (W W' : World) : Prop := ∀ b, b < n₀ → b ≠ Bo → W'.heap[b]? = W.heap[b]?
theorem Kq.cell {n₀ Bo : Nat} {W W' : World} (h : Kq n₀ Bo W W') {p : Addr} {v : Value} (hc : W.cell? p = some v) (h1 : p.block < n₀) (h2 : p.block ≠ Bo) : W'.cell? p = some v := (World.cell?_of_block (h _ h1 h2)).trans hc
theorem Kq.zi {n₀ Bo : Nat} {W W' : World} (h : Kq n₀ Bo W W') {A : Option Addr} {n : Nat} {L : List Int} (hz : Zi W A n L) (hb : 0 < n → ∀ ad, A = some ad → ad.block < n₀ ∧ ad.block ≠ Bo) (hs : n₀ ≤ W'.heap.size) : Zi W' A n L :=
  ⟨hz.1, fun hn => by
    obtain ⟨ad, e, hx, hc⟩ := hz.2 hn
    have hb2 := hb hn ad e
    exact ⟨ad, e, by omega, fun j hj => h.cell (hc j hj) (by rw [add_block]; exact hb2.1) (by rw [add_block]; exact hb2.2)⟩⟩
theorem drop_at {L : List Int} {k n : Nat} (hl : L.length = n) (hk : k < n) : L.drop k = L.getD k 0 :: L.drop (k + 1) := by
  rw [List.drop_eq_getElem_cons (by omega), List.getD_eq_getElem?_getD, List.getElem?_eq_getElem (by omega)]; rfl
theorem zi_lt {w : World} {A : Option Addr} {n : Nat} {L : List Int} (h : Zi w A n L) : ∀ ad, 0 < n → A = some ad → ad.block < w.heap.size := fun ad hn e => by
  obtain ⟨ad', e', hx, _⟩ := h.2 hn
  rw [e] at e'; cases e'; exact hx
set_option maxRecDepth 100000 in
set_option maxHeartbeats 2000000 in
theorem runs1_in (d : Nat) (hd : 1 ≤ d) (n₀ Bo l Bx : Nat) (A : Option Addr) (c n : Nat) (L : List Int) (hn : n ≤ 3000) (J Jx : List Rn → World → Prop) (W : World) (hJ : AbidesFrom W.heap.size J)
    (hY : ∀ pre x W, J pre W → pre.length < n + 1 → YieldAt Fence.wide (d - 1) Tryz.prog l (encr x) W fun e W' =>
      (e = .returned (.bool true) ∧ J (pre ++ [x]) W' ∧ (Kq n₀ Bo W W' ∧ n₀ ≤ W'.heap.size)) ∨ (e = .returned (.bool false) ∧ Jx (pre ++ [x]) W'))
    (hx1 : Bx < n₀) (hx2 : Bx ≠ Bo) (hbx : W.cell? ⟨Bx, 0, none⟩ = some (.slice A n c)) (hz : Zi W A n L) (hzb : 0 < n → ∀ ad, A = some ad → ad.block < n₀ ∧ ad.block ≠ Bo) (h0 : J [] W) :
    CallsIn Fence.wide d Tryz.prog 120 #[.func (.yield l) #[] #[], .pointer (some ⟨Bx, 0, none⟩)] W fun e W' => (∃ v, e = .returned v) ∧
      ((∃ ys : List Rn, rv ys = rns L 0 0 ∧ J ys W') ∨ (∃ pre : List Rn, True ∧ Jx pre W')) := by
  have ni : (n : Int) ≤ 3000 := by omega
  have HL := Lib.hid hz.1
  have HZB := Lib.hid hzb
  refine callsIn_of_wp Tryz.func120 rfl trivial ?_ rfl
  simp only [Tryz.ntmps120, List.size_toArray, List.length_cons, List.length_nil, Nat.reduceAdd, Nat.reduceSub, Array.replicate_succ, Array.replicate_zero, List.push_toArray, List.append_toArray, List.nil_append, List.cons_append]
  gi_wp2
  gi_loopw [3, 8] (fun s3 s8 wr => ∃ (k cc : Nat) (pre : List Rn), s3 = .int .i64 (cc : Int) ∧ s8 = .int .i64 (k : Int) ∧ k ≤ n ∧ cc ≤ k ∧ pre.length ≤ k ∧ rv pre ++ rns (L.drop k) k cc = rns L 0 0 ∧ J pre wr ∧ wr.cell? ⟨Bx, 0, none⟩ = some (.slice A n c) ∧ Zi wr A n L)
    (fun s3 s8 wr => n - (intOf s8).toNat)
  case atStart => exact ⟨0, 0, [], rfl, rfl, Nat.zero_le _, Nat.le_refl _, Nat.le_refl _, rfl, h0, hbx, hz⟩
  case round =>
    clear hbx hz h0
    obtain ⟨k, cc, pre, rfl, rfl, hk, hck, hpl, hpre, hJs, cb, hzr⟩ := hrel
    rcases Nat.lt_or_ge k n with hlt | hge
    · have hdr := drop_at HL.out hlt
      obtain ⟨ad, rfl, hab, hac⟩ := hzr.2 (by omega)
      have c1 := hac k hlt
      obtain ⟨x, hx⟩ : ∃ x, L.getD k 0 = x := ⟨_, rfl⟩
      rw [hx] at c1 hdr
      have HD := Lib.hid hdr
      have HP := Lib.hid (And.intro hpre (And.intro hJs (And.intro cb hzr)))
      have ki : (k : Int) < (n : Int) := by omega
      have cki : (cc : Int) ≤ (k : Int) := by omega
      clear hdr hx hac hab hpre hJs hzr
      by_cases hm : x = 1073741824
      · subst hm
        rcases Nat.eq_zero_or_pos cc with h0 | h0
        · subst h0
          gi_wp2
          refine ⟨(fun f h => by cases h), ?_⟩
          gi_wp2
          go_roundw
          case rel => exact ⟨k + 1, 0, pre, rfl, by go_num, by omega, by omega, by omega, by
            have := HP.out.1
            rw [HD.out] at this
            rw [← this]; rfl, HP.out.2.1, HP.out.2.2.1, HP.out.2.2.2⟩
          case measure => simp [intOf]; omega
        · have c0 : (cc : Int) > 0 := by omega
          obtain ⟨q, hq⟩ : ∃ q, k - cc = q := ⟨_, rfl⟩
          have hqi : (k : Int) - (cc : Int) = (q : Int) := by omega
          obtain ⟨fn, tmps, assign, body, hy, hR⟩ := hY pre ⟨(q, cc), by show q + cc ≤ 3000; omega⟩ wr HP.out.2.1 (by omega)
          unfold encr at hy
          clear hY hJ hzb hq
          obtain ⟨H, hH⟩ : ∃ H : Bool → World → Prop, H = fun bb W' => ((bb = true ∧ J (pre ++ [⟨(q, cc), by show q + cc ≤ 3000; omega⟩]) W' ∧ (Kq n₀ Bo wr W' ∧ n₀ ≤ W'.heap.size)) ∨ (bb = false ∧ Jx (pre ++ [⟨(q, cc), by show q + cc ≤ 3000; omega⟩]) W')) := ⟨_, rfl⟩
          have hR2 := hR.mono (R' := fun e W' => ∃ bb, e = .returned (.bool bb) ∧ H bb W') (fun e W' h3 => by rw [hH]; exact h3.elim (fun h => ⟨true, h.1, .inl ⟨rfl, h.2.1, h.2.2⟩⟩) (fun h => ⟨false, h.1, .inr ⟨rfl, h.2⟩⟩))
          have HH := Lib.hid hH
          clear hR hH
          gi_wp2_with (refine hR2.mono ?_; rintro e W3 ⟨bb, rfl, hbb⟩; rw [HH.out] at hbb; rcases hbb with ⟨rfl, hJ3, hk3, hk4⟩ | ⟨rfl, hJx3⟩)
          · go_roundw
            case rel => exact ⟨k + 1, 0, pre ++ [⟨(q, cc), by show q + cc ≤ 3000; omega⟩], rfl, by go_num, by omega, by omega, by rw [List.length_append]; simp; omega, by
              have := HP.out.1
              rw [HD.out] at this
              rw [← this, rv_snoc, List.append_assoc]; congr 1; show _ = rns (_ :: _) k cc; conv => rhs; unfold rns
              rw [if_pos rfl, if_pos h0]; show _ = (k - cc, cc) :: _; rw [show k - cc = q by omega]; rfl, hJ3, hk3.cell HP.out.2.2.1 hx1 hx2, hk3.zi HP.out.2.2.2 HZB.out hk4⟩
            case measure => simp [intOf]; omega
          · refine bodyPost_ret (results_none rfl _ _ _) rfl ?_
            exact ⟨⟨_, rfl⟩, .inr ⟨_, trivial, hJx3⟩⟩
      · have hmb : (x == 1073741824) = false := by simpa using hm
        gi_wp2
        go_roundw
        case rel => exact ⟨k + 1, cc + 1, pre, by go_num, by go_num, by omega, by omega, by omega, by
            have := HP.out.1
            rw [HD.out] at this
            rw [← this]; show _ = rv pre ++ rns (x :: _) k cc; conv => rhs; unfold rns
            rw [if_neg hm], HP.out.2.1, HP.out.2.2.1, HP.out.2.2.2⟩
        case measure => simp [intOf]; omega
    · obtain rfl : k = n := by omega
      have hrl : rns (L.drop k) k cc = if 0 < cc then [(k - cc, cc)] else [] := by rw [List.drop_of_length_le (by have := HL.out; omega)]; rfl
      rw [hrl] at hpre
      have cki : (cc : Int) ≤ (k : Int) := by omega
      clear hrl hzr hzb
      rcases Nat.eq_zero_or_pos cc with h0 | h0
      · subst h0
        have hpre2 : rv pre = rns L 0 0 := by rw [← hpre]; simp
        clear hpre
        have HP2 := Lib.hid (And.intro hpre2 hJs)
        clear hpre2 hJs
        gi_wp2
        go_end0
        exact ⟨⟨_, rfl⟩, .inl ⟨pre, HP2.out⟩⟩
      · have c0 : (cc : Int) > 0 := by omega
        rw [if_pos h0] at hpre
        obtain ⟨q, hq⟩ : ∃ q, k - cc = q := ⟨_, rfl⟩
        rw [hq] at hpre
        have hqi : (k : Int) - (cc : Int) = (q : Int) := by omega
        obtain ⟨fn, tmps, assign, body, hy, hR⟩ := hY pre ⟨(q, cc), by show q + cc ≤ 3000; omega⟩ wr hJs (by omega)
        unfold encr at hy
        have HP2 := Lib.hid hpre
        clear hY hJ hq hJs hpre
        obtain ⟨H, hH⟩ : ∃ H : Bool → World → Prop, H = fun bb W' => ((bb = true ∧ J (pre ++ [⟨(q, cc), by show q + cc ≤ 3000; omega⟩]) W' ∧ (Kq n₀ Bo wr W' ∧ n₀ ≤ W'.heap.size)) ∨ (bb = false ∧ Jx (pre ++ [⟨(q, cc), by show q + cc ≤ 3000; omega⟩]) W')) := ⟨_, rfl⟩
        have hR2 := hR.mono (R' := fun e W' => ∃ bb, e = .returned (.bool bb) ∧ H bb W') (fun e W' h3 => by rw [hH]; exact h3.elim (fun h => ⟨true, h.1, .inl ⟨rfl, h.2.1, h.2.2⟩⟩) (fun h => ⟨false, h.1, .inr ⟨rfl, h.2⟩⟩))
        have HH := Lib.hid hH
        clear hR hH
        gi_wp2_with (refine hR2.mono ?_; rintro e W3 ⟨bb, rfl, hbb⟩)
        go_end0
        rw [HH.out] at hbb
        refine ⟨⟨_, rfl⟩, ?_⟩
        rcases hbb with ⟨rfl, hJ3, hk3, hk4⟩ | ⟨rfl, hJx3⟩
        · exact .inl ⟨_, by rw [rv_snoc]; exact HP2.out, hJ3⟩
        · exact .inr ⟨_, trivial, hJx3⟩
end Go.Proofs.YtpbnabibnkohdaaGreatDoor.Se
namespace Go.Proofs.YtpbnabibnkohdaaGreatDoor.Se
open Go.RowKit Go.Shelf Wo Sr Wi
set_option linter.unusedVariables false
attribute [local go_sem] Oper.semAt_some
theorem runs_stops (d : Nat) (hd : 1 ≤ d) (Bo Bx : Nat) (A : Option Addr) (c n : Nat) (L : List Int) (hn : n ≤ 3000) (w : World) (hx1 : Bx < w.heap.size) (hx2 : Bx ≠ Bo) (hbx : w.cell? ⟨Bx, 0, none⟩ = some (.slice A n c)) (hz : Zi w A n L) (hzb : 0 < n → ∀ ad, A = some ad → ad.block ≠ Bo) :
    SeqStopsK Fence.wide d Tryz.prog 120 #[.pointer (some ⟨Bx, 0, none⟩)] encr (fun W W' => Kq w.heap.size Bo W W' ∧ w.heap.size ≤ W'.heap.size) (fun ys => rv ys = rns L 0 0) (fun _ => True) (n + 1) w := fun l J Jx W hW hJ _ hY h0 =>
  runs1_in d hd w.heap.size Bo l Bx A c n L hn J Jx W hJ hY hx1 hx2 ((hW.cell (p := ⟨Bx, 0, none⟩) hx1).trans hbx) (hz.bel hW) (fun h ad e => ⟨zi_lt hz ad h e, hzb h ad e⟩) h0
theorem kq_t {n₀ Bo : Nat} {A B C : World} (h : Kq n₀ Bo A B ∧ n₀ ≤ B.heap.size) (k : Kq n₀ Bo B C ∧ n₀ ≤ C.heap.size) : Kq n₀ Bo A C ∧ n₀ ≤ C.heap.size := ⟨fun b h1 h2 => (k.1 b h1 h2).trans (h.1 b h1 h2), k.2⟩
theorem kq_b {n₀ Bo : Nat} (W : World) (l : Nat) (o o' : Obj) (hl : n₀ ≤ l) (h : W.heap[l]? = some o) : Kq n₀ Bo W (W.putObj l o') ∧ n₀ ≤ (W.putObj l o').heap.size := ⟨fun b hb _ => by
  unfold World.putObj
  simp [show l ≠ b by omega], by
  have := (Array.getElem?_eq_some_iff.1 h).1
  unfold World.putObj
  simp; omega⟩
theorem kq_bl {n₀ Bo : Nat} {W W' : World} (h : Below n₀ W W') (hs : n₀ ≤ W.heap.size) : Kq n₀ Bo W W' ∧ n₀ ≤ W'.heap.size := ⟨fun b hb _ => h.block b hb, Nat.le_trans hs h.size⟩
/-- the starts of the runs that have come -/
def stl (m : Nat) (pre : List Rn) : List Int := ((rv pre).flatMap (ofRun m)).map Int.ofNat
theorem stl_len (m : Nat) (pre : List Rn) : (stl m pre).length ≤ pre.length * 3001 := by
  induction pre with
  | nil => simp [stl, rv]
  | cons x l ih =>
    have e : stl m (x :: l) = (ofRun m x.1).map Int.ofNat ++ stl m l := by simp [stl, rv]
    have h2 : (ofRun m x.1).length ≤ 3001 := by
      have := x.2
      simp [ofRun]; omega
    rw [e, List.length_append, List.length_map, List.length_cons]
    omega
/-- t starts of the run x behind those of pre -/
def stp (m : Nat) (pre : List Rn) (x : Rn) (t : Nat) : List Int := stl m pre ++ (List.range t).map (fun i => ((x.1.1 + i : Nat) : Int))
theorem stp_all (m : Nat) (pre : List Rn) (x : Rn) : stp m pre x (x.1.2 + 1 - m) = stl m (pre ++ [x]) := by
  simp [stp, stl, rv, ofRun]
theorem stp_zero (m : Nat) (pre : List Rn) (x : Rn) : stp m pre x 0 = stl m pre := by simp [stp]
theorem stp_len (m : Nat) (pre : List Rn) (x : Rn) (t : Nat) : (stp m pre x t).length = (stl m pre).length + t := by simp [stp]
theorem stp_next (m : Nat) (pre : List Rn) (x : Rn) (t : Nat) : stp m pre x (t + 1) = stp m pre x t ++ [(x.1.1 : Int) + (t : Int)] := by
  simp [stp, List.range_succ]
theorem stl_sts {L : List Int} {m : Nat} {ys : List Rn} (h : rv ys = rns L 0 0) : stl m ys = (sts L m).map Int.ofNat := by
  unfold stl sts; rw [h]
theorem own_ne {W : World} {base k size : Nat} {e : TypeId} {v : Value} {xs : List Value} (h : W.ownsRow base e size v k xs) {b : Nat} (hb : b < base) : some b ≠ v.ownBlock := by
  intro hg
  rcases h.2 with ⟨rfl, _⟩ | ⟨g, cap, cur, rfl, hh, _⟩
  · cases hg
  · injection hg with hg
    have : b = g := hg
    omega
theorem own_nd {W : World} {base k size : Nat} {e : TypeId} {v : Value} {xs : List Value} (h : W.ownsRow base e size v k xs) {b : Nat} {o : Obj} (hb : W.heap[b]? = some o) (ho : o.isCells = false) : some b ≠ v.ownBlock := by
  intro hg
  rcases h.2 with ⟨rfl, _⟩ | ⟨g, cap, cur, rfl, _, hh, _⟩
  · cases hg
  · injection hg with hg
    have : b = g := hg
    subst this
    rw [hb] at hh
    cases hh
    cases ho
theorem own_lo {w : World} {base base' size n : Nat} {e : TypeId} {v : Value} {xs : List Value} (h : w.ownsRow base e size v n xs) (hb : base' ≤ base) : w.ownsRow base' e size v n xs := by
  refine ⟨h.1, ?_⟩
  rcases h.2 with hn | ⟨g, cap, cur, rfl, hbb, rest⟩
  · exact .inl hn
  · exact .inr ⟨g, cap, cur, rfl, by omega, rest⟩
theorem cell_lt {W : World} {b k : Nat} {v : Value} (h : W.cell? ⟨b, k, none⟩ = some v) : b < W.heap.size := by
  obtain ⟨o, ho, _⟩ := cells_of_cell h
  exact (Array.getElem?_eq_some_iff.1 ho).1
theorem own_blk_ne {w : World} {base g : Nat} {e t : TypeId} {cs : Array Value} {size n : Nat} {v : Value} {xs : List Value} (h : w.ownsRow base e size v n xs) (hg : Bk w g t cs) (hne : e ≠ t) : v.ownBlock ≠ some g := by
  rcases h.2 with ⟨rfl, _⟩ | ⟨g', cap, cur, rfl, _, hh, _⟩
  · simp [Value.ownBlock]
  · intro he
    have : g' = g := by simpa [Value.ownBlock] using he
    subst this
    unfold Bk at hg
    rw [hg] at hh
    injection hh with hh
    injection hh with _ ht
    exact hne ht.symm
theorem bk_own {g : Nat} {t : TypeId} {cs : Array Value} {B : Nat} {A W : World} {row : Option Nat} (h : Bk A g t cs) (hg : A.grownBy W row) (hr : ∀ r, row = some r → B ≤ r ∧ ∃ o : Obj, A.heap[r]? = some o ∧ o.isCells = false) : Bk W g t cs :=
  (hg.block g h.lt (fun e => by
    obtain ⟨_, o, ho, hc⟩ := hr g e.symm
    unfold Bk at h
    rw [h] at ho
    cases ho
    cases hc)).trans h
end Go.Proofs.YtpbnabibnkohdaaGreatDoor.Se
namespace Go.Proofs.YtpbnabibnkohdaaGreatDoor.Se
open Go.ChangeShapes Go.WideShapes Go.RowKit Wo Sr Wi
set_option linter.unusedVariables false
def exL : List Int := [1, 2, 1073741824, 3, 4, 5]
theorem exL_sv : Sv exL := fun x hx => by
  simp [exL] at hx
  omega
/-- a series that was drawn -/
def SomeSer (g n : Nat) (w : World) (e : Ending) (w' : World) : Prop := ∃ (st sp : Int) (A : Option Addr) (m c : Nat) (L : List Int), e = .returned (.agg #[.int .i64 st, .int .i64 sp, .slice A m c]) ∧ 0 ≤ st ∧ st ≤ 1000 ∧ 1 ≤ sp ∧ sp ≤ 20 ∧ m ≤ n ∧ Sv L ∧ Vs w' A m c L ∧ (∀ ad, A = some ad → w.heap.size ≤ ad.block) ∧ Ok w' g ∧ Ch g w w'
theorem own_blk_ne2 {w : World} {base g : Nat} {e t : TypeId} {cs : Array Value} {size n : Nat} {v : Value} {xs : List Value} (h : w.ownsRow base e size v n xs) (hg : Bk w g t cs) (hne : e ≠ t) : v.ownBlock ≠ some g := by
  rcases h.2 with ⟨rfl, _⟩ | ⟨g', cap, cur, rfl, _, hh, _⟩
  · simp [Value.ownBlock]
  · intro he
    have : g' = g := by simpa [Value.ownBlock] using he
    subst this
    unfold Bk at hg
    rw [hg] at hh
    injection hh with hh
    injection hh with _ ht
    exact hne ht.symm
theorem sv_set {L : List Int} (h : Sv L) (k : Nat) : Sv (L.set k 1073741824) := by
  intro x hx
  rcases List.mem_or_eq_of_mem_set hx with h' | rfl
  · exact h x h'
  · exact .inr rfl
end Go.Proofs.YtpbnabibnkohdaaGreatDoor.Se
namespace Go.Proofs.YtpbnabibnkohdaaGreatDoor.By
open Go.ChangeShapes Go.WideShapes Go.RowKit Wo
set_option linter.unusedVariables false
/-- the values of a list of bytes -/
def bys (L : List Nat) : List Value := L.map fun c : Nat => .int .u8 (c : Int)
theorem bys_len (L : List Nat) : (bys L).length = L.length := by simp [bys]
theorem bys_app (L M : List Nat) : bys (L ++ M) = bys L ++ bys M := by simp [bys]
theorem bys_one {L : List Nat} : ∀ v ∈ bys L, v.oneCell' = true := by
  intro v hv
  simp only [bys, List.mem_map] at hv
  obtain ⟨c, _, rfl⟩ := hv
  rfl
theorem bys_at {L : List Nat} {j : Nat} (h : j < L.length) : (bys L)[j]? = some (.int .u8 (L.getD j 0 : Nat)) := by
  simp [bys, List.getD_eq_getElem?_getD, h]
/-- the slice at A of length n reads as the bytes L -/
def Rd (w : World) (A : Option Addr) (n : Nat) (L : List Nat) : Prop := L.length = n ∧ (∀ c ∈ L, c < 256) ∧ (0 < n → ∃ ad : Addr, A = some ad ∧ ad.block < w.heap.size ∧ ∀ j, j < n → w.cell? (ad.add j) = some (.int .u8 (L.getD j 0 : Nat)))
theorem add_blk (a : Addr) (n : Nat) : (a.add n).block = a.block := by unfold Addr.add; split <;> rfl
theorem Rd.bel {w w' : World} {A : Option Addr} {n : Nat} {L : List Nat} (h : Rd w A n L) (hb : Bel w w') : Rd w' A n L :=
  ⟨h.1, h.2.1, fun hn => by
    obtain ⟨ad, e, hx, hc⟩ := h.2.2 hn
    exact ⟨ad, e, by have := hb.size; omega, fun j hj => hb.kp (hc j hj)⟩⟩
theorem Rd.nil (w : World) (A : Option Addr) : Rd w A 0 [] := ⟨rfl, by simp, fun h => by omega⟩
theorem add_row (h j : Nat) : (⟨h, 0, none⟩ : Addr).add j = ⟨h, j, none⟩ := by unfold Addr.add; split <;> simp_all
theorem Rd.own {w : World} {base cap h n : Nat} {e : TypeId} {L : List Nat} (hr : w.ownsRow base e 1 (.slice (some ⟨h, 0, none⟩) n cap) n (bys L)) (hl : ∀ c ∈ L, c < 256) (hn : L.length = n) : Rd w (some ⟨h, 0, none⟩) n L := by
  refine ⟨hn, hl, fun _ => ⟨_, rfl, (hr.lt h rfl).2, fun j hj => ?_⟩⟩
  exact hr.cells (g := h) rfl j _ (bys_at (by omega))
theorem Rd.byte {w : World} {A : Option Addr} {n : Nat} {L : List Nat} (h : Rd w A n L) (j : Nat) : L.getD j 0 < 256 := by
  rw [List.getD_eq_getElem?_getD]
  rcases hj : L[j]? with _ | c
  · simp
  · exact h.2.1 c (List.mem_of_getElem? hj)
/-- 'make([]T, l, c)', the length and the capacity variables -/
theorem wpList_make_any {P : Program} (w : World) {ops : Array Oper} {rest : List Oper} {o : Oper} {a : Act} {Q : Exit → Act → World → Prop}
    (hg : o.guard = none) (l c : Operand) (t : TypeId) (hop : o.op = Op.makeSlice t l c)
    (e : TypeId) (i : TypeInfo) (z : Value) (size : Nat) (h1 : P.underlying t = some (.slice e)) (h2 : P.info? e = some i) (h3 : i.zero = some z) (h4 : i.size = size)
    (kl kc : IntKind) (L C : Int) (m n : Nat) (hl : a.eval l = .int kl L) (hc : a.eval c = .int kc C) (hL : L = (m : Int)) (hC : C = (n : Int)) (hmn : m ≤ n) (b2 : i.bytes * n ≤ 281474976710656) (b3 : n ≤ 4611686018427387904)
    (hK : wpList P ops Q rest (a.put o.dst (.slice (some ⟨w.heap.size, 0, none⟩) m n)) (w.alloc (.cells (madeCells z.cells (n * size)) e))) :
    wpList P ops Q (o :: rest) a w := by
  refine wpList_plain hg fun K hK' => ?_
  have hb' : (i.bytes : Int) * (n : Int) ≤ 281474976710656 := by
    have h : ((i.bytes * n : Nat) : Int) ≤ 281474976710656 := by omega
    rwa [Int.natCast_mul] at h
  have hr := run_make (P := P) w t e i z h1 h2 h3 kl kc m n (by omega) (by omega) hb' (by omega)
  simp only [Int.toNat_natCast] at hr
  subst hL
  subst hC
  subst h4
  unfold Oper.wp
  simp [execOp, hop, hl, hc, hr, Result.andThen]
  exact hK' _ _ hK
theorem made_u8 (n : Nat) : madeCells (Value.int .u8 0).cells (n * 1) = (bys (List.replicate n 0)).toArray := by
  apply Array.ext
  · simp [madeCells, bys]
  · intro i h1 h2
    simp [madeCells, bys, Nat.mod_one, Value.cells]
theorem bk_setCells_aux {g : Nat} {t : TypeId} (vs : List Value) : ∀ (o : Nat) (w : World) (cs : Array Value), Bk w g t cs → o + vs.length ≤ cs.size →
    ∃ cs', Bk (w.setCells g o vs) g t cs' ∧ cs'.size = cs.size ∧ (∀ j, j < vs.length → cs'[o + j]? = vs[j]?) ∧ ∀ j, j < o → cs'[j]? = cs[j]? := by
  induction vs with
  | nil => intro o w cs h hl; exact ⟨cs, h, rfl, fun j hj => by simp at hj, fun _ _ => rfl⟩
  | cons v vs ih =>
    intro o w cs h hl
    simp only [List.length_cons] at hl
    obtain ⟨cs', h1, h2, h3, h4⟩ := ih (o + 1) (w.setCell ⟨g, o, none⟩ v) (cs.setIfInBounds o v) (h.st o v) (by simp; omega)
    refine ⟨cs', h1, by simpa using h2, fun j hj => ?_, fun j hj => ?_⟩
    · rcases Nat.eq_zero_or_pos j with h0 | h0
      · subst h0
        rw [Nat.add_zero, h4 o (by omega)]
        have : o < cs.size := by omega
        simp [this]
      · obtain ⟨k, rfl⟩ : ∃ k, j = k + 1 := ⟨j - 1, by omega⟩
        rw [show o + (k + 1) = o + 1 + k by omega, h3 k (by simp at hj; omega)]
        simp
    · rw [h4 j (by omega), Array.getElem?_setIfInBounds_ne (by omega)]
theorem bk_setCells {g : Nat} {t : TypeId} {w : World} {cs ds : Array Value} (h : Bk w g t cs) (hs : ds.size = cs.size) : Bk (w.setCells g 0 ds.toList) g t ds := by
  obtain ⟨cs', h1, h2, h3, h4⟩ := bk_setCells_aux ds.toList 0 w cs h (by simp; omega)
  have : cs' = ds := by
    apply Array.ext_getElem?
    intro i
    rcases Nat.lt_or_ge i ds.size with hi | hi
    · have := h3 i (by simpa using hi)
      simpa using this
    · rw [Array.getElem?_eq_none (by omega), Array.getElem?_eq_none hi]
  rwa [this] at h1
theorem setCells_far {g : Nat} (vs : List Value) : ∀ (o : Nat) (w : World) (k : Nat), k ≠ g → (w.setCells g o vs).heap[k]? = w.heap[k]? := by
  induction vs with
  | nil => intro o w k h; rfl
  | cons v vs ih => intro o w k h; exact (ih (o + 1) _ k h).trans (Below.heap_setCell w ⟨g, o, none⟩ v k h)
theorem setCells_same {g : Nat} (vs : List Value) : ∀ (o : Nat) (w : World), (w.setCells g o vs).os = w.os ∧ (w.setCells g o vs).tape = w.tape ∧ (w.setCells g o vs).output = w.output ∧ (w.setCells g o vs).heap.size = w.heap.size := by
  induction vs with
  | nil => intro o w; exact ⟨rfl, rfl, rfl, rfl⟩
  | cons v vs ih =>
    intro o w
    obtain ⟨a, b, c, d⟩ := ih (o + 1) (w.setCell ⟨g, o, none⟩ v)
    exact ⟨a, b, c, d.trans (by simp [World.setCell])⟩
theorem bel_setCells {a b : World} {g : Nat} (h : Bel a b) (hg : a.heap.size ≤ g) (vs : List Value) : Bel a (b.setCells g 0 vs) := by
  obtain ⟨x, y, z, s⟩ := setCells_same (g := g) vs 0 b
  exact ⟨x.trans h.bl.os, y.trans h.bl.tape, z.trans h.bl.output, by rw [s]; exact h.size, fun k hk => (setCells_far vs 0 b k (by omega)).trans (h.bl.block k hk)⟩
theorem bk_there {g : Nat} {t : TypeId} {w : World} {cs : Array Value} (h : Bk w g t cs) : w.there g 0 cs.size := fun j hj => by
  rw [Nat.zero_add]
  exact ⟨by rw [h.cell j]; simp [hj], h.fr j⟩
/-- a store of a whole long array into a variable of its own -/
theorem wpList_store_big {P : Program} {ops : Array Oper} {rest : List Oper} {op : Oper} {a : Act} {w : World} {Q : Exit → Act → World → Prop} (hgd : op.guard = none) (ty : TypeId) (x y : Operand) (ho : op.op = .store ty x y)
    (g : Nat) (cells cs : Array Value) (t : TypeId) (hx : a.eval x = .pointer (some ⟨g, 0, none⟩)) (hy : a.eval y = .agg cells) (hb : Bk w g t cs) (hs : cells.size = cs.size)
    (hi : (P.info? ty).map (·.size) = some cells.size) (h1 : cells.all (·.oneCell') = true)
    (h : ∀ w', Hid (Bk w' g t cells) → Hid (∀ b, Bel b w → b.heap.size ≤ g → Bel b w') → wpList P ops Q rest (a.put op.dst undef) w') : wpList P ops Q (op :: rest) a w :=
  wpList_store_mid hgd ty x y ho g 0 cells hx hy (by rw [hs]; exact bk_there hb) hi h1 (h _ (bk_setCells hb hs) (fun b hbb hg => bel_setCells hbb hg _))
theorem Rd.src {w : World} {ad : Addr} {n : Nat} {L : List Nat} (h : Rd w (some ad) n L) : ∀ j v, (bys L)[j]? = some v → w.cell? (ad.add j) = some v := by
  intro j v hv
  have hj : j < L.length := by
    rcases Nat.lt_or_ge j L.length with h | h
    · exact h
    · rw [List.getElem?_eq_none (by rw [bys_len]; exact h)] at hv; cases hv
  obtain ⟨ad', e, _, hc⟩ := h.2.2 (by have := h.1; omega)
  cases e
  rw [bys_at hj] at hv
  cases hv
  exact hc j (by have := h.1; omega)
/-- append of a slice that reads as bytes, nil or not, to a row of the call's own -/
theorem wpList_append_rd {P : Program} {w : World} {ops : Array Oper} {rest : List Oper} {o : Oper} {a : Act} {Q : Exit → Act → World → Prop} (hgd : o.guard = none) (s x : Operand) (t : TypeId)
    (ho : o.op = .call { callee := .builtin .append, args := #[s, x], argTypes := #[t, t] })
    (base : Nat) (e : TypeId) (i : TypeInfo) (z : Value) (ht : P.underlying t = some (.slice e)) (hi : P.info? e = some i) (hz : i.zero = some z) (hsize : i.size = 1) (hby : i.bytes = 1) (hzs : z.cells.size = 1)
    (v : Value) (n : Nat) (xs : List Value) (hs : a.eval s = v) (hown : w.ownsRow base e 1 v n xs)
    (A : Option Addr) (m c : Nat) (M : List Nat) (hx : a.eval x = .slice A m c) (hr : Rd w A m M) (hn : A = none → c = 0) (hm : n + m ≤ 140737488355328) (hbase : base ≤ w.heap.size)
    (h : ∀ v' w', w'.ownsRow base e 1 v' (n + m) (xs ++ bys M) → w.grownBy w' v.ownBlock → wpList P ops Q rest (a.put o.dst v') w') : wpList P ops Q (o :: rest) a w := by
  cases A with
  | none =>
    have hm0 : m = 0 := by
      rcases Nat.eq_zero_or_pos m with h0 | h0
      · exact h0
      · obtain ⟨ad, e, _⟩ := hr.2.2 h0; cases e
    have hc0 := hn rfl
    subst hm0 hc0
    have hM : M = [] := List.eq_nil_of_length_eq_zero hr.1
    subst hM
    refine wpList_append_own_none hgd s x t ho base e i 1 ht hi v n xs hs hown hx ?_
    exact h v w (by simpa [bys] using hown) (World.grownBy.refl _ _)
  | some ad =>
    refine wpList_append_own w hgd s x t ho base e i z 1 1 ht hi hz hsize hby hzs (by decide) v n xs hs hown ad m c (bys M) hx (by rw [bys_len, hr.1]; omega) hr.src bys_one (by unfold maxLen; omega) (by omega) hbase ?_
    intro v' w' h1 h2 _
    exact h v' w' h1 h2
end Go.Proofs.YtpbnabibnkohdaaGreatDoor.By
namespace Go.Proofs.YtpbnabibnkohdaaGreatDoor.Bm
set_option linter.unusedVariables false
theorem wrap_id {k : IntKind} {n : Int} (h : k.wrap n = n) : k.wrap n = n := h
theorem wrap_u8 (n : Int) : IntKind.u8.wrap n = n % 256 := by simp [IntKind.wrap, IntKind.bits, IntKind.signed]
theorem xor_u32 {a b : Nat} (ha : a < 4294967296) (hb : b < 4294967296) : bits .xor .u32 (a : Int) (b : Int) = ((a ^^^ b : Nat) : Int) := by
  have hx : a ^^^ b < 4294967296 := Nat.xor_lt_two_pow (n := 32) ha hb
  show IntKind.u32.wrap (((BitVec.ofInt 32 (a : Int) ^^^ BitVec.ofInt 32 (b : Int)).toNat : Nat) : Int) = _
  rw [BitVec.ofInt_natCast, BitVec.ofInt_natCast, BitVec.toNat_xor, BitVec.toNat_ofNat, BitVec.toNat_ofNat, show (2 : Nat) ^ 32 = 4294967296 from rfl, Nat.mod_eq_of_lt ha, Nat.mod_eq_of_lt hb, IntKind.wrap_u32]
  omega
theorem xor_u8 {a b : Nat} (ha : a < 256) (hb : b < 256) : bits .xor .u8 (a : Int) (b : Int) = ((a ^^^ b : Nat) : Int) := by
  have hx : a ^^^ b < 256 := Nat.xor_lt_two_pow (n := 8) ha hb
  show IntKind.u8.wrap (((BitVec.ofInt 8 (a : Int) ^^^ BitVec.ofInt 8 (b : Int)).toNat : Nat) : Int) = _
  rw [BitVec.ofInt_natCast, BitVec.ofInt_natCast, BitVec.toNat_xor, BitVec.toNat_ofNat, BitVec.toNat_ofNat, show (2 : Nat) ^ 8 = 256 from rfl, Nat.mod_eq_of_lt ha, Nat.mod_eq_of_lt hb, wrap_u8]
  omega
theorem and1_u32 {a : Nat} (ha : a < 4294967296) : bits .and .u32 (a : Int) 1 = ((a % 2 : Nat) : Int) := by
  show IntKind.u32.wrap (((BitVec.ofInt 32 (a : Int) &&& BitVec.ofInt 32 ((1 : Nat) : Int)).toNat : Nat) : Int) = _
  rw [BitVec.ofInt_natCast, BitVec.ofInt_natCast, BitVec.toNat_and, BitVec.toNat_ofNat, BitVec.toNat_ofNat, show (2 : Nat) ^ 32 = 4294967296 from rfl, Nat.mod_eq_of_lt ha, show (1 : Nat) % 4294967296 = 1 from rfl, Nat.and_one_is_mod, IntKind.wrap_u32]
  omega
theorem and1_u64 {a : Nat} (ha : a < 18446744073709551616) : bits .and .u64 (a : Int) 1 = ((a % 2 : Nat) : Int) := by
  show IntKind.u64.wrap (((BitVec.ofInt 64 (a : Int) &&& BitVec.ofInt 64 ((1 : Nat) : Int)).toNat : Nat) : Int) = _
  rw [BitVec.ofInt_natCast, BitVec.ofInt_natCast, BitVec.toNat_and, BitVec.toNat_ofNat, BitVec.toNat_ofNat, show (2 : Nat) ^ 64 = 18446744073709551616 from rfl, Nat.mod_eq_of_lt ha, show (1 : Nat) % 18446744073709551616 = 1 from rfl, Nat.and_one_is_mod, IntKind.wrap_u64]
  omega
theorem and127_u8 {a : Nat} (ha : a < 256) : bits .and .u8 (a : Int) 127 = ((a % 128 : Nat) : Int) := by
  have key : ∀ b : Nat, b < 256 → bits .and .u8 ((b : Nat) : Int) 127 = ((b % 128 : Nat) : Int) := by decide +kernel
  exact key a ha
theorem or128_u8 {a : Nat} (ha : a < 256) : bits .or .u8 (a : Int) 128 = ((a % 128 + 128 : Nat) : Int) := by
  have key : ∀ b : Nat, b < 256 → bits .or .u8 ((b : Nat) : Int) 128 = ((b % 128 + 128 : Nat) : Int) := by decide +kernel
  exact key a ha
theorem xor_u64 {a b : Nat} (ha : a < 18446744073709551616) (hb : b < 18446744073709551616) : bits .xor .u64 (a : Int) (b : Int) = ((a ^^^ b : Nat) : Int) := by
  have hx : a ^^^ b < 18446744073709551616 := Nat.xor_lt_two_pow (n := 64) ha hb
  show IntKind.u64.wrap (((BitVec.ofInt 64 (a : Int) ^^^ BitVec.ofInt 64 (b : Int)).toNat : Nat) : Int) = _
  rw [BitVec.ofInt_natCast, BitVec.ofInt_natCast, BitVec.toNat_xor, BitVec.toNat_ofNat, BitVec.toNat_ofNat, show (2 : Nat) ^ 64 = 18446744073709551616 from rfl, Nat.mod_eq_of_lt ha, Nat.mod_eq_of_lt hb, IntKind.wrap_u64]
  omega
theorem nxor_ones (a : Nat) (ha : a < 18446744073709551616) : a ^^^ 18446744073709551615 = 18446744073709551615 - a := by
  apply Nat.eq_of_testBit_eq
  intro i
  have h1 : (18446744073709551615 : Nat) = 2 ^ 64 - 1 := rfl
  rw [Nat.testBit_xor, h1, Nat.testBit_two_pow_sub_one, show 2 ^ 64 - 1 - a = 2 ^ 64 - (a + 1) by omega, Nat.testBit_two_pow_sub_succ (by simpa using ha)]
  rcases Nat.lt_or_ge i 64 with h | h
  · simp [h]
  · have : a.testBit i = false := Nat.testBit_lt_two_pow (Nat.lt_of_lt_of_le (by simpa using ha) (Nat.pow_le_pow_right (by omega) h))
    simp [this]
theorem fold_pos {n : Int} (h0 : 0 ≤ n) (h1 : n ≤ 9223372036854775807) : bits .xor .u64 (IntKind.u64.wrap (IntKind.u64.wrap n * 2)) (IntKind.u64.wrap (n / 9223372036854775808)) = 2 * n := by
  obtain ⟨a, rfl⟩ := Int.eq_ofNat_of_zero_le h0
  rw [IntKind.wrap_u64, IntKind.wrap_u64, IntKind.wrap_u64]
  have e1 : ((a : Int) % 18446744073709551616 * 2) % 18446744073709551616 = ((2 * a : Nat) : Int) := by omega
  have e2 : ((a : Int) / 9223372036854775808) % 18446744073709551616 = ((0 : Nat) : Int) := by omega
  rw [e1, e2, xor_u64 (by omega) (by omega), Nat.xor_zero]
  omega
theorem fold_neg {n : Int} (h0 : n < 0) (h1 : -9223372036854775808 ≤ n) : bits .xor .u64 (IntKind.u64.wrap (IntKind.u64.wrap n * 2)) (IntKind.u64.wrap (n / 9223372036854775808)) = -2 * n - 1 := by
  obtain ⟨a, ha⟩ := Int.eq_ofNat_of_zero_le (show 0 ≤ -n by omega)
  rw [IntKind.wrap_u64, IntKind.wrap_u64, IntKind.wrap_u64]
  have e1 : (n % 18446744073709551616 * 2) % 18446744073709551616 = ((18446744073709551616 - 2 * a : Nat) : Int) := by omega
  have e2 : (n / 9223372036854775808) % 18446744073709551616 = ((18446744073709551615 : Nat) : Int) := by omega
  rw [e1, e2, xor_u64 (by omega) (by omega), nxor_ones _ (by omega)]
  omega
theorem unfold_even {a : Nat} (h : a ≤ 9223372036854775807) : bits .xor .i64 (a : Int) 0 = (a : Int) := by
  show IntKind.i64.wrap (((BitVec.ofInt 64 (a : Int) ^^^ BitVec.ofInt 64 0).toNat : Nat) : Int) = _
  rw [BitVec.ofInt_natCast, show BitVec.ofInt 64 0 = 0#64 from rfl, BitVec.xor_zero, BitVec.toNat_ofNat, Nat.mod_eq_of_lt (by omega)]
  exact IntWalk.i64_in _ (by omega)
theorem unfold_odd {a : Nat} (h : a ≤ 9223372036854775807) : bits .xor .i64 (a : Int) (-1) = -(a : Int) - 1 := by
  show IntKind.i64.wrap (((BitVec.ofInt 64 (a : Int) ^^^ BitVec.ofInt 64 (-1)).toNat : Nat) : Int) = _
  rw [BitVec.ofInt_natCast, show BitVec.ofInt 64 (-1) = 18446744073709551615#64 from rfl, BitVec.toNat_xor, BitVec.toNat_ofNat, BitVec.toNat_ofNat, Nat.mod_eq_of_lt (show a < 2 ^ 64 by omega), show (18446744073709551615 : Nat) % 2 ^ 64 = 18446744073709551615 from rfl, nxor_ones _ (by omega)]
  simp [IntKind.wrap, IntKind.bits, IntKind.signed]
  omega
theorem or_u64 {a : Nat} {x i : Nat} (hi : i ≤ 63) (ha : a < 2 ^ i) (hx : x % 2 ^ i = 0) (hx1 : x < 18446744073709551616) : bits .or .u64 (a : Int) (x : Int) = ((a + x : Nat) : Int) := by
  obtain ⟨y, rfl⟩ : ∃ y, x = 2 ^ i * y := ⟨x / 2 ^ i, by have := Nat.mod_add_div x (2 ^ i); omega⟩
  have hp : 2 ^ i ≤ 2 ^ 63 := Nat.pow_le_pow_right (by omega) hi
  have e : a ||| 2 ^ i * y = a + 2 ^ i * y := by
    rw [Nat.or_comm, Nat.add_comm, Nat.two_pow_add_eq_or_of_lt ha]
  have hlt : a ||| 2 ^ i * y < 18446744073709551616 := Nat.or_lt_two_pow (n := 64) (by omega) hx1
  show IntKind.u64.wrap (((BitVec.ofInt 64 (a : Int) ||| BitVec.ofInt 64 ((2 ^ i * y : Nat) : Int)).toNat : Nat) : Int) = _
  rw [BitVec.ofInt_natCast, BitVec.ofInt_natCast, BitVec.toNat_or, BitVec.toNat_ofNat, BitVec.toNat_ofNat, show (2 : Nat) ^ 64 = 18446744073709551616 from rfl, Nat.mod_eq_of_lt (show a < 18446744073709551616 by omega), Nat.mod_eq_of_lt hx1, IntKind.wrap_u64]
  omega
theorem nxor32 (a : Nat) (ha : a < 4294967296) : a ^^^ 4294967295 = 4294967295 - a := by
  apply Nat.eq_of_testBit_eq
  intro i
  have h1 : (4294967295 : Nat) = 2 ^ 32 - 1 := rfl
  rw [Nat.testBit_xor, h1, Nat.testBit_two_pow_sub_one, show 2 ^ 32 - 1 - a = 2 ^ 32 - (a + 1) by omega, Nat.testBit_two_pow_sub_succ (by simpa using ha)]
  rcases Nat.lt_or_ge i 32 with h | h
  · simp [h]
  · have : a.testBit i = false := Nat.testBit_lt_two_pow (Nat.lt_of_lt_of_le (by simpa using ha) (Nat.pow_le_pow_right (by omega) h))
    simp [this]
theorem not_u32 {r : Nat} (h : r < 4294967296) : bits .xor .u32 IntKind.u32.max (r : Int) = ((4294967295 - r : Nat) : Int) := by
  rw [show IntKind.u32.max = ((4294967295 : Nat) : Int) by decide, xor_u32 (by omega) h, Nat.xor_comm, nxor32 r h]
end Go.Proofs.YtpbnabibnkohdaaGreatDoor.Bm
namespace Go.Proofs.YtpbnabibnkohdaaGreatDoor.Cd
set_option linter.unusedVariables false
/-- the folded number, and back -/
def fld (n : Int) : Nat := if 0 ≤ n then (2 * n).toNat else (-2 * n - 1).toNat
def unf (u : Nat) : Int := if u % 2 = 0 then ((u / 2 : Nat) : Int) else -((u / 2 : Nat) : Int) - 1
theorem unf_fld (n : Int) : unf (fld n) = n := by unfold unf fld; split <;> split <;> omega
theorem fld_lt {n : Int} (h0 : -9223372036854775808 ≤ n) (h1 : n ≤ 9223372036854775807) : fld n < 18446744073709551616 := by unfold fld; split <;> omega
/-- the encoding of a folded number, with room for f bytes ahead of the last one -/
def enc : Nat → Nat → List Nat
  | 0, u => [u]
  | f + 1, u => if u < 128 then [u] else (u % 128 + 128) :: enc f (u / 128)
def bytesOf (n : Int) : List Nat := enc 9 (fld n)
theorem enc_small (f : Nat) {u : Nat} (h : u < 128) : enc f u = [u] := by cases f <;> simp [enc, h]
theorem enc_great (f : Nat) {u : Nat} (h : 128 ≤ u) : enc (f + 1) u = (u % 128 + 128) :: enc f (u / 128) := by rw [enc, if_neg (by omega)]
theorem enc_len (f : Nat) : ∀ u, 1 ≤ (enc f u).length ∧ (enc f u).length ≤ f + 1 := by
  induction f with
  | zero => intro u; simp [enc]
  | succ f ih =>
    intro u
    rcases Nat.lt_or_ge u 128 with h | h
    · rw [enc_small _ h]; simp
    · rw [enc_great _ h, List.length_cons]; have := ih (u / 128); omega
/-- the greatest folded number of f bytes and the last one -/
def room : Nat → Nat
  | 0 => 2
  | f + 1 => 128 * room f
theorem enc_byte (f : Nat) : ∀ u, u < room f → ∀ c ∈ enc f u, c < 256 := by
  induction f with
  | zero => intro u hu c hc; simp [enc] at hc; simp [room] at hu; omega
  | succ f ih =>
    intro u hu c hc
    simp [room] at hu
    rcases Nat.lt_or_ge u 128 with h | h
    · rw [enc_small _ h] at hc; simp at hc; omega
    · rw [enc_great _ h] at hc
      rcases List.mem_cons.1 hc with h1 | h1
      · omega
      · exact ih (u / 128) (by omega) c h1
theorem room_nine : room 9 = 18446744073709551616 := by decide
theorem enc_mono (f : Nat) : ∀ u v, u ≤ v → (enc f u).length ≤ (enc f v).length := by
  induction f with
  | zero => intro u v _; simp [enc]
  | succ f ih =>
    intro u v h
    rcases Nat.lt_or_ge u 128 with hu | hu
    · rw [enc_small _ hu]; simpa using (enc_len (f + 1) v).1
    · rw [enc_great _ hu, enc_great _ (by omega)]
      simpa using ih (u / 128) (v / 128) (by omega)
/-- what Int does from byte i of the encoding on, u being what the bytes ahead of it say -/
def decGo (B : List Nat) (at_ : Nat) : Nat → Nat → Nat → Int × Int × Int
  | 0, _, _ => (0, 0, 3)
  | f + 1, i, u =>
    if at_ + i = B.length then (0, 0, 2)
    else if 127 < B.getD (at_ + i) 0 then decGo B at_ f (i + 1) (u + B.getD (at_ + i) 0 % 128 * 128 ^ i % 18446744073709551616)
    else if (i = 9 ∧ 1 < B.getD (at_ + i) 0) ∨ (0 < i ∧ B.getD (at_ + i) 0 = 0) then (0, 0, 3)
    else (unf (u + B.getD (at_ + i) 0 % 128 * 128 ^ i % 18446744073709551616), ((at_ + i + 1 : Nat) : Int), 0)
def dec (B : List Nat) (at_ : Nat) : Int × Int × Int := decGo B at_ 10 0 0
theorem getD_drop {B L : List Nat} {k : Nat} {c : Nat} (h : B.drop k = c :: L) : k < B.length ∧ B.getD k 0 = c ∧ B.drop (k + 1) = L := by
  have hk : k < B.length := by
    rcases Nat.lt_or_ge k B.length with h1 | h1
    · exact h1
    · rw [List.drop_eq_nil_of_le h1] at h; cases h
  rw [List.drop_eq_getElem_cons hk] at h
  injection h with h1 h2
  exact ⟨hk, by rw [List.getD_eq_getElem?_getD, List.getElem?_eq_getElem hk]; exact h1, h2⟩
theorem pow_room (f i : Nat) (h : f + i = 9) : room f * 128 ^ i = 18446744073709551616 := by
  have : i = 9 - f := by omega
  subst this
  have hf : f ≤ 9 := by omega
  revert hf
  match f with
  | 0 => decide
  | 1 => decide
  | 2 => decide
  | 3 => decide
  | 4 => decide
  | 5 => decide
  | 6 => decide
  | 7 => decide
  | 8 => decide
  | 9 => decide
  | _ + 10 => intro h; omega
theorem small_mul {v f i : Nat} (h : f + i = 9) (hv : v < room f) : v * 128 ^ i < 18446744073709551616 := by
  rw [← pow_room f i h]
  exact Nat.mul_lt_mul_of_pos_right hv (Nat.pow_pos (by omega))
/-- the encoding of v is read, whatever stands behind it -/
theorem dec_enc (B rest : List Nat) (at_ : Nat) (f : Nat) : ∀ (i u v : Nat), f + i = 9 → v < room f → (0 < i → 0 < v) → B.drop (at_ + i) = enc f v ++ rest →
    decGo B at_ (f + 1) i u = (unf (u + v * 128 ^ i), ((at_ + i + (enc f v).length : Nat) : Int), 0) := by
  induction f with
  | zero =>
    intro i u v hi hv hp hb
    obtain ⟨h1, h2, h3⟩ := getD_drop (L := rest) (c := v) (by simpa [enc] using hb)
    have hs := small_mul hi hv
    simp [room] at hv
    rw [decGo, if_neg (by omega), h2, if_neg (by omega), if_neg (by have := hp; omega), Nat.mod_eq_of_lt (show v < 128 by omega), Nat.mod_eq_of_lt hs]
    simp [enc]
  | succ f ih =>
    intro i u v hi hv hp hb
    have hs := small_mul hi hv
    rcases Nat.lt_or_ge v 128 with h | h
    · rw [enc_small _ h] at hb ⊢
      obtain ⟨h1, h2, h3⟩ := getD_drop (L := rest) (c := v) (by simpa using hb)
      rw [decGo, if_neg (by omega), h2, if_neg (by omega), if_neg (by have := hp; omega), Nat.mod_eq_of_lt (show v < 128 by omega), Nat.mod_eq_of_lt hs]
      simp
    · rw [enc_great _ h] at hb ⊢
      obtain ⟨h1, h2, h3⟩ := getD_drop (L := enc f (v / 128) ++ rest) (c := v % 128 + 128) (by simpa using hb)
      rw [decGo, if_neg (by omega), h2, if_pos (by omega)]
      have e1 : (v % 128 + 128) % 128 = v % 128 := by omega
      have e2 : v % 128 * 128 ^ i < 18446744073709551616 := by
        have : v % 128 * 128 ^ i ≤ v * 128 ^ i := Nat.mul_le_mul_right _ (Nat.mod_le _ _)
        omega
      rw [e1, Nat.mod_eq_of_lt e2, ih (i + 1) _ (v / 128) (by omega) (by simp [room] at hv; omega) (by intro _; omega) (by rw [← Nat.add_assoc]; exact h3)]
      have e3 : u + v % 128 * 128 ^ i + v / 128 * 128 ^ (i + 1) = u + v * 128 ^ i := by
        have : v * 128 ^ i = (v % 128 + 128 * (v / 128)) * 128 ^ i := by rw [Nat.mod_add_div]
        rw [this, Nat.pow_succ]
        grind
      rw [e3, List.length_cons]
      congr 2
      congr 1
      omega
/-- a beginning of the encoding is too short -/
theorem dec_short (B : List Nat) (at_ : Nat) (f : Nat) : ∀ (i u v j : Nat), j < (enc f v).length → at_ + i ≤ B.length → B.drop (at_ + i) = (enc f v).take j → decGo B at_ (f + 1) i u = (0, 0, 2) := by
  induction f with
  | zero =>
    intro i u v j hj hl hb
    have : j = 0 := by simp [enc] at hj; omega
    subst this
    have : B.length ≤ at_ + i := by simpa using hb
    rw [decGo, if_pos (by omega)]
  | succ f ih =>
    intro i u v j hj hl hb
    rcases Nat.eq_zero_or_pos j with h0 | h0
    · subst h0
      have : B.length ≤ at_ + i := by simpa using hb
      rw [decGo, if_pos (by omega)]
    · rcases Nat.lt_or_ge v 128 with h | h
      · rw [enc_small _ h] at hj; simp at hj; omega
      · rw [enc_great _ h] at hb hj
        obtain ⟨k, rfl⟩ : ∃ k, j = k + 1 := ⟨j - 1, by omega⟩
        rw [List.take_succ_cons] at hb
        obtain ⟨h1, h2, h3⟩ := getD_drop hb
        rw [decGo, if_neg (by omega), h2, if_pos (by omega)]
        exact ih (i + 1) _ (v / 128) k (by simpa using hj) (by omega) (by rw [← Nat.add_assoc]; exact h3)
theorem dec_bytes {B rest : List Nat} {at_ : Nat} {n : Int} (h0 : -9223372036854775808 ≤ n) (h1 : n ≤ 9223372036854775807) (hb : B.drop at_ = bytesOf n ++ rest) :
    dec B at_ = (n, ((at_ + (bytesOf n).length : Nat) : Int), 0) := by
  have := dec_enc B rest at_ 9 0 0 (fld n) rfl (by rw [room_nine]; exact fld_lt h0 h1) (by omega) (by simpa [bytesOf] using hb)
  unfold dec
  rw [this]
  simp [unf_fld, bytesOf]
theorem dec_cut {B : List Nat} {at_ j : Nat} {n : Int} (hl : at_ ≤ B.length) (hj : j < (bytesOf n).length) (hb : B.drop at_ = (bytesOf n).take j) : dec B at_ = (0, 0, 2) :=
  dec_short B at_ 9 0 0 (fld n) j hj (by simpa using hl) (by simpa [bytesOf] using hb)
end Go.Proofs.YtpbnabibnkohdaaGreatDoor.Cd
namespace Go.Proofs.YtpbnabibnkohdaaGreatDoor.Cd
open Go.ChangeShapes Go.WideShapes Go.RowKit Wo Bm
set_option linter.unusedVariables false
theorem fold_any (n : Int) (h0 : -9223372036854775808 ≤ n) (h1 : n ≤ 9223372036854775807) (w : World) :
    Calls Tryz.prog 124 #[.int .i64 n] w fun e w' => e = .returned (.int .u64 (fld n : Int)) ∧ w = w' := by
  have HF : Hid (bits .xor .u64 (IntKind.u64.wrap (IntKind.u64.wrap n * 2)) (IntKind.u64.wrap (n / 9223372036854775808)) = (fld n : Int)) := by
    show bits _ _ _ _ = _
    rcases Int.lt_or_le n 0 with h | h
    · rw [fold_neg h h0]; unfold fld; rw [if_neg (by omega)]; omega
    · rw [fold_pos h h1]; unfold fld; rw [if_pos h]; omega
  go_enter Tryz.func124, Tryz.ntmps124
  go_wp2
  go_ret
  exact ⟨ret_int HF.out, rfl⟩
theorem unfold_any (u : Nat) (h1 : u < 18446744073709551616) (w : World) :
    Calls Tryz.prog 152 #[.int .u64 (u : Int)] w fun e w' => e = .returned (.int .i64 (unf u)) ∧ w = w' := by
  have HA := Lib.hid (and1_u64 h1)
  go_enter Tryz.func152, Tryz.ntmps152
  go_wp2
  go_ret
  refine ⟨ret_int ?_, rfl⟩
  rw [HA.out, show (u : Int) / 2 = ((u / 2 : Nat) : Int) by omega]
  unfold unf
  rcases Nat.mod_two_eq_zero_or_one u with h | h
  · rw [h, if_pos rfl, show wrap64 (-wrap64 ((0 : Nat) : Int)) = 0 by decide +kernel]
    exact unfold_even (a := u / 2) (by omega)
  · rw [h, if_neg (by decide), show wrap64 (-wrap64 ((1 : Nat) : Int)) = -1 by decide +kernel]
    exact unfold_odd (a := u / 2) (by omega)
end Go.Proofs.YtpbnabibnkohdaaGreatDoor.Cd
namespace Go.Proofs.YtpbnabibnkohdaaGreatDoor.Cd
open Go.ChangeShapes Go.WideShapes Go.RowKit Wo Bm By
set_option linter.unusedVariables false
theorem info_u8 : (Tryz.prog.info? 5).map (fun i => (i.zero, i.size, i.bytes)) = some (some (.int .u8 0), 1, 1) := by kernel_rfl
theorem size_u8 : (Tryz.prog.info? 5).map (·.size) = some 1 := by kernel_rfl
def SomePut (B : List Nat) (n : Int) (w : World) (e : Ending) (w' : World) : Prop := ∃ h : Nat, e = .returned (.slice (some ⟨h, 0, none⟩) (B.length + (bytesOf n).length) (B.length + 10)) ∧
  w'.ownsRow w.heap.size 5 1 (.slice (some ⟨h, 0, none⟩) (B.length + (bytesOf n).length) (B.length + 10)) (B.length + (bytesOf n).length) (bys (B ++ bytesOf n)) ∧ Bel w w'
/-- the loop's relation: some bytes have been written, u is what is left -/
def PRel (B : List Nat) (n : Int) (h : Nat) (w : World) (s5 s6 : Value) (wr : World) : Prop := ∃ (k u : Nat) (L : List Nat), k ≤ 9 ∧ L.length = k ∧ L ++ enc (9 - k) u = bytesOf n ∧ u < room (9 - k) ∧ s6 = .int .u64 (u : Int) ∧
  s5 = .slice (some ⟨h, 0, none⟩) (B.length + k) (B.length + 10) ∧ wr.ownsRow w.heap.size 5 1 (.slice (some ⟨h, 0, none⟩) (B.length + k) (B.length + 10)) (B.length + k) (bys (B ++ L)) ∧ Bel w wr
theorem room_le : ∀ f, f ≤ 9 → room f ≤ 18446744073709551616 ∧ (f = 0 → room f = 2) := by decide
theorem low7 (u : Nat) : bits .or .u8 (IntKind.u8.wrap (u : Int)) 128 = ((u % 128 + 128 : Nat) : Int) := by
  rw [wrap_u8, show ((u : Int) % 256) = ((u % 256 : Nat) : Int) by omega, or128_u8 (by omega)]
  omega
set_option maxHeartbeats 8000000 in
set_option maxRecDepth 100000 in
theorem put_any (A : Option Addr) (c : Nat) (B : List Nat) (n : Int) (h0 : -9223372036854775808 ≤ n) (h1 : n ≤ 9223372036854775807) (hB : B.length ≤ 140737488355000) (w : World) (hr : Rd w A B.length B) :
    Calls Tryz.prog 97 #[.slice A B.length c, .int .i64 n] w (SomePut B n w) := by
  obtain ⟨i0, hi0, hz0, hz1, hz2⟩ := info_parts info_u8
  have HF := Lib.hid (fun w => fold_any n h0 h1 w)
  have HI := Lib.hid (And.intro hi0 (And.intro hz0 (And.intro hz1 hz2)))
  have HR := Lib.hid hr
  have bl : (B.length : Int) ≤ 140737488355000 := by omega
  clear hi0 hz0 hz1 hz2 hr
  have HP : Hid (0 < (bys B).length → (some ⟨w.heap.size, 0, none⟩ : Option Addr) = some ⟨w.heap.size, 0, none⟩ ∧ ∃ ad, A = some ad ∧ ∀ j v, (bys B)[j]? = some v → (w.alloc (.cells (bys (List.replicate (B.length + 10) 0)).toArray 5)).cell? (ad.add j) = some v) := by
    show _ → _
    intro hp
    refine ⟨rfl, ?_⟩
    obtain ⟨ad, e, hb, hc⟩ := HR.out.2.2 (by simpa [bys_len] using hp)
    refine ⟨ad, e, fun j v hv => ?_⟩
    have hj : j < B.length := by
      rcases Nat.lt_or_ge j B.length with h | h
      · exact h
      · rw [List.getElem?_eq_none (by rw [bys_len]; exact h)] at hv; cases hv
    rw [bys_at hj] at hv
    cases hv
    exact kp_al (hc j hj) _
  have HH : Hid ((w.alloc (.cells (bys (List.replicate (B.length + 10) 0)).toArray 5)).heap[w.heap.size]? = some (.cells (bys (List.replicate (B.length + 10) 0)).toArray 5)) := heap_alloc_new w _
  have HL : Hid ((bys B).length = Nat.min B.length B.length) := by show _ = _; simp [bys_len]
  have HL2 : Hid (0 + (bys B).length ≤ (bys (List.replicate (B.length + 10) 0)).length) := by show _ ≤ _; simp [bys_len]
  have HBE : Hid (Below w.heap.size w (w.alloc (.cells (bys (List.replicate (B.length + 10) 0)).toArray 5))) := (Bel.rf.al _).bl
  go_enter Tryz.func97, Tryz.ntmps97
  go_upto_region 2 with (refine wpList_make_any _ rfl (.tmp 8) (.tmp 11) 112 rfl 5 i0 (.int .u8 0) 1 Tryz.underlying112 HI.out.1 HI.out.2.1 HI.out.2.2.1 .i64 .i64 _ _ B.length (B.length + 10) rfl rfl rfl (by omega) (by omega) (by rw [HI.out.2.2.2]; omega) (by omega) ?_; rw [made_u8])
  go_wp2_with (first
    | (refine wpList_copy_splice rfl (.tmp 13) (.tmp 14) 112 112 rfl 5 Tryz.underlying112 size_u8 (some ⟨w.heap.size, 0, none⟩) A B.length (B.length + 10) B.length c rfl rfl w.heap.size 0 (bys (List.replicate (B.length + 10) 0)) 5 HH.out (bys B) HL.out HP.out HL2.out bys_one w.heap.size w HBE.out (Nat.le_refl _) ?_; intro w2 HG2 hB2)
    | (go_at_call 124; refine (HF.out _).mono ?_; rintro e w' ⟨rfl, rfl⟩))
  have HS : Hid (PRel B n w.heap.size w (.slice (some ⟨w.heap.size, 0, none⟩) B.length (B.length + 10)) (.int .u64 (fld n : Int)) w2) := by
    refine ⟨0, fld n, [], by omega, rfl, rfl, by rw [room_nine]; exact fld_lt h0 h1, rfl, rfl, ⟨by simp [bys_len], .inr ⟨_, _, _, rfl, Nat.le_refl _, HG2.out, by omega, by unfold maxLen; omega, ?_, ?_⟩⟩, hB2⟩
    · simp [splice, bys_len]
    · simp [splice, bys_len]
  clear HG2 hB2 HP HH HL HL2 HBE HR HF
  go_loopw [5, 6] (fun s5 s6 wr => PRel B n w.heap.size w s5 s6 wr) (fun _ s6 _ => (intOf s6).toNat)
  case atStart => exact HS.out
  case round =>
    clear HS
    obtain ⟨k, u, L, hk, hL, hE, hu, rfl, rfl, hown, hb⟩ := hrel
    rename_i wr
    have HO := Lib.hid hown
    have HB := Lib.hid hb
    have HE := Lib.hid hE
    have HLL := Lib.hid hL
    rcases Nat.lt_or_ge 127 u with hg | hg
    · have hk9 : k < 9 := by
        rcases Nat.lt_or_ge k 9 with h | h
        · exact h
        · have := (room_le (9 - k) (by omega)).2 (by omega); omega
      obtain ⟨f, hf⟩ : ∃ f, 9 - k = f + 1 := ⟨8 - k, by omega⟩
      have hE2 : L ++ [u % 128 + 128] ++ enc f (u / 128) = bytesOf n := by
        have := HE.out
        rw [hf, enc_great f (by omega)] at this
        simpa using this
      have hu2 : u / 128 < room f := by rw [hf] at hu; simp [room] at hu; omega
      obtain ⟨x, hx⟩ : ∃ x, u % 128 + 128 = x := ⟨_, rfl⟩
      have e1 : bits .or .u8 ((u : Int) % 256) 128 = (x : Int) := by rw [← wrap_u8, low7, hx]
      rw [hx] at hE2
      have HE2 := Lib.hid hE2
      have HU2 := Lib.hid hu2
      have HX := Lib.hid hx
      have HF9 := Lib.hid hf
      have gi : (127 : Int) < (u : Int) := by omega
      have HC : Hid (∀ j v, [Value.int .u8 (x : Int)][j]? = some v → (wr.alloc (.cells #[.int .u8 (x : Int)] 5)).cell? ((⟨wr.heap.size, 0, none⟩ : Addr).add j) = some v) := by
        intro j v hv
        rw [add_row, (Bk.nw wr _ _).cell j]
        simpa using hv
      clear hown hb hE hL hE2 hu2 hx hf hu
      go_wp2_with (first
        | (at_builtin; go_loud (refine wpList_append_fits _ rfl (.tmp 22) (.tmp 26) 112 rfl w.heap.size 5 i0 1 Tryz.underlying112 HI.out.1 HI.out.2.2.1 w.heap.size (B.length + k) (B.length + 10) (bys (B ++ L)) rfl (HO.out.alloc _) ⟨wr.heap.size, 0, none⟩ 1 1 [.int .u8 (x : Int)] rfl rfl HC.out (by intro v hv; simp at hv; subst hv; rfl) (by omega) ?_); intro w3 hown3 hg3))
      have HO3 := Lib.hid hown3
      have HG3 := Lib.hid hg3
      clear hown3 hg3 e1
      go_roundw
      case rel =>
        refine ⟨k + 1, u / 128, L ++ [x], by omega, by have := HLL.out; simp [this], ?_, ?_, by go_num, rfl, ?_, ?_⟩
        · have := HF9.out
          rw [show 9 - (k + 1) = f by omega, HE2.out]
        · have := HF9.out
          rw [show 9 - (k + 1) = f by omega]; exact HU2.out
        · have := HO3.out
          rw [show bys (B ++ (L ++ [x])) = bys (B ++ L) ++ [.int .u8 (x : Int)] by simp [bys]]
          exact this
        · exact Below.grown (Bel.al HB.out _).bl HG3.out (by simp; have := HB.out.size; omega) (fun b e => by cases e; exact Nat.le_refl _)
      case measure => simp [intOf]; omega
    · have hE2 : L ++ [u] = bytesOf n := by
        have := HE.out
        rwa [enc_small _ (by omega)] at this
      have HE2 := Lib.hid hE2
      have gi : (u : Int) ≤ 127 := by omega
      have gi0 : (0 : Int) ≤ (u : Int) := by omega
      have HC : Hid (∀ j v, [Value.int .u8 (u : Int)][j]? = some v → (wr.alloc (.cells #[.int .u8 (u : Int)] 5)).cell? ((⟨wr.heap.size, 0, none⟩ : Addr).add j) = some v) := by
        intro j v hv
        rw [add_row, (Bk.nw wr _ _).cell j]
        simpa using hv
      clear hown hb hE hL hE2 hu
      go_wp2_with (first
        | (at_builtin; refine wpList_append_fits _ rfl (.tmp 28) (.tmp 31) 112 rfl w.heap.size 5 i0 1 Tryz.underlying112 HI.out.1 HI.out.2.2.1 w.heap.size (B.length + k) (B.length + 10) (bys (B ++ L)) rfl (HO.out.alloc _) ⟨wr.heap.size, 0, none⟩ 1 1 [.int .u8 (u : Int)] rfl rfl HC.out (by intro v hv; simp at hv; subst hv; rfl) (by omega) ?_; intro w3 hown3 hg3))
      have HO3 := Lib.hid hown3
      have HG3 := Lib.hid hg3
      clear hown3 hg3
      go_ret
      have hln : (bytesOf n).length = k + 1 := by have := HLL.out; rw [← HE2.out]; simp [this]
      refine ⟨w.heap.size, by rw [hln]; rfl, ?_, ?_⟩
      · rw [hln]
        have := HO3.out
        rw [← HE2.out, show bys (B ++ (L ++ [u])) = bys (B ++ L) ++ [.int .u8 (u : Int)] by simp [bys]]
        exact this
      · exact Below.grown (Bel.al HB.out _).bl HG3.out (by simp; have := HB.out.size; omega) (fun b e => by cases e; exact Nat.le_refl _)
end Go.Proofs.YtpbnabibnkohdaaGreatDoor.Cd
namespace Go.Proofs.YtpbnabibnkohdaaGreatDoor.Pk
set_option linter.unusedVariables false
/-- byte j of the bits f ahead of place K -/
def pkb (f : Nat → Nat) (K j : Nat) : Nat → Nat
  | 0 => 0
  | t + 1 => pkb f K j t + (if 8 * j + t < K then f (8 * j + t) else 0) * 2 ^ t
def pk (f : Nat → Nat) (K j : Nat) : Nat := pkb f K j 8
theorem pkb_lt {f : Nat → Nat} (hf : ∀ k, f k < 2) (K j : Nat) : ∀ t, pkb f K j t < 2 ^ t
  | 0 => by simp [pkb]
  | t + 1 => by
    have ih := pkb_lt hf K j t
    have : (if 8 * j + t < K then f (8 * j + t) else 0) * 2 ^ t ≤ 1 * 2 ^ t := Nat.mul_le_mul_right _ (by split; have := hf (8 * j + t); omega; omega)
    rw [pkb, Nat.pow_succ]
    omega
theorem pk_lt {f : Nat → Nat} (hf : ∀ k, f k < 2) (K j : Nat) : pk f K j < 256 := pkb_lt hf K j 8
/-- places from t on that are not ahead of K count nothing -/
theorem pkb_stop {f : Nat → Nat} (K j : Nat) : ∀ (t : Nat), K ≤ 8 * j + t → ∀ d, pkb f K j (t + d) = pkb f K j t
  | t, h, 0 => rfl
  | t, h, d + 1 => by rw [← Nat.add_assoc, pkb, pkb_stop K j t h d, if_neg (by omega)]; simp
theorem pkb_same {f : Nat → Nat} (K j : Nat) : ∀ (t : Nat), 8 * j + t ≤ K → pkb f (K + 1) j t = pkb f K j t
  | 0, _ => rfl
  | t + 1, h => by rw [pkb, pkb, pkb_same K j t (by omega), if_pos (by omega), if_pos (by omega)]
/-- one more bit: its own byte grows, the others stay -/
theorem pk_step {f : Nat → Nat} (hf : ∀ k, f k < 2) (K : Nat) : pk f (K + 1) (K / 8) = pk f K (K / 8) + f K * 2 ^ (K % 8) ∧ pk f K (K / 8) < 2 ^ (K % 8) := by
  obtain ⟨j, t, hK, ht⟩ : ∃ j t, K = 8 * j + t ∧ t < 8 := ⟨K / 8, K % 8, by omega, by omega⟩
  have e1 : K / 8 = j := by omega
  have e2 : K % 8 = t := by omega
  rw [e1, e2]
  have a1 : pk f K j = pkb f K j t := by
    have := pkb_stop (f := f) K j t (by omega) (8 - t)
    rwa [show t + (8 - t) = 8 by omega] at this
  have a2 : pk f (K + 1) j = pkb f (K + 1) j (t + 1) := by
    have := pkb_stop (f := f) (K + 1) j (t + 1) (by omega) (8 - (t + 1))
    rwa [show t + 1 + (8 - (t + 1)) = 8 by omega] at this
  have a3 : pkb f (K + 1) j (t + 1) = pkb f K j t + f K * 2 ^ t := by
    rw [pkb, pkb_same K j t (by omega), if_pos (by omega), hK]
  exact ⟨by rw [a2, a3, a1], by rw [a1]; exact pkb_lt hf K j t⟩
theorem pkb_else {f : Nat → Nat} (K j : Nat) (h : j ≠ K / 8) : ∀ t, t ≤ 8 → pkb f (K + 1) j t = pkb f K j t
  | 0, _ => rfl
  | t + 1, ht => by
    rw [pkb, pkb, pkb_else K j h t (by omega)]
    congr 2
    have : (8 * j + t < K + 1) = (8 * j + t < K) := by
      apply propext
      constructor <;> intro _ <;> omega
    simp only [this]
theorem pk_else {f : Nat → Nat} (K j : Nat) (h : j ≠ K / 8) : pk f (K + 1) j = pk f K j := pkb_else K j h 8 (by omega)
theorem pk_zero (f : Nat → Nat) (j : Nat) : pk f 0 j = 0 := by simp [pk, pkb]
/-- the bits of a byte -/
theorem pkb_bit {f : Nat → Nat} (hf : ∀ k, f k < 2) (K j : Nat) : ∀ (t s : Nat), s < t → pkb f K j t / 2 ^ s % 2 = if 8 * j + s < K then f (8 * j + s) else 0
  | 0, s, h => by omega
  | t + 1, s, h => by
    rw [pkb]
    rcases Nat.lt_or_ge s t with h1 | h1
    · have ih := pkb_bit hf K j t s h1
      have e : (2 : Nat) ^ t = 2 ^ s * (2 * 2 ^ (t - s - 1)) := by
        rw [← Nat.pow_succ', ← Nat.pow_add]; congr 1; omega
      rw [e, show ∀ x : Nat, x * (2 ^ s * (2 * 2 ^ (t - s - 1))) = 2 ^ s * (2 * (x * 2 ^ (t - s - 1))) from fun x => by grind, Nat.add_mul_div_left _ _ (Nat.two_pow_pos s), Nat.add_mul_mod_self_left]
      exact ih
    · obtain rfl : s = t := by omega
      have hl := pkb_lt hf K j s
      rw [Nat.add_mul_div_right _ _ (Nat.two_pow_pos s), Nat.div_eq_of_lt hl, Nat.zero_add]
      have : (if 8 * j + s < K then f (8 * j + s) else 0) < 2 := by split; exact hf _; omega
      omega
theorem pk_bit {f : Nat → Nat} (hf : ∀ k, f k < 2) (K k : Nat) : pk f K (k / 8) / 2 ^ (k % 8) % 2 = if k < K then f k else 0 := by
  have := pkb_bit hf K (k / 8) 8 (k % 8) (by omega)
  rw [show 8 * (k / 8) + k % 8 = k by omega] at this
  exact this
/-- the bits of a list of numbers of a width -/
def fb (L : List Nat) (w k : Nat) : Nat := L.getD (k / w) 0 / 2 ^ (k % w) % 2
theorem fb_lt (L : List Nat) (w k : Nat) : fb L w k < 2 := Nat.mod_lt _ (by decide)
theorem fb_at {w j : Nat} (L : List Nat) (i : Nat) (hj : j < w) : fb L w (i * w + j) = L.getD i 0 / 2 ^ j % 2 := by
  unfold fb
  rw [show i * w + j = j + i * w by omega, Nat.add_mul_div_right _ _ (by omega), Nat.div_eq_of_lt hj, Nat.zero_add, Nat.add_mul_mod_self_right, Nat.mod_eq_of_lt hj]
/-- the bytes of a list packed as far as bit K -/
def bytesK (L : List Nat) (w n K : Nat) : List Nat := (List.range n).map (pk (fb L w) K)
def packed (L : List Nat) (w : Nat) : List Nat := bytesK L w ((L.length * w + 7) / 8) (L.length * w)
theorem bytesK_len (L : List Nat) (w n K : Nat) : (bytesK L w n K).length = n := by simp [bytesK]
theorem bytesK_at {L : List Nat} {w n K j : Nat} (h : j < n) : (bytesK L w n K).getD j 0 = pk (fb L w) K j := by simp [bytesK, List.getD_eq_getElem?_getD, h]
theorem bytesK_lt (L : List Nat) (w n K : Nat) : ∀ c ∈ bytesK L w n K, c < 256 := by
  intro c hc
  simp only [bytesK, List.mem_map] at hc
  obtain ⟨j, _, rfl⟩ := hc
  exact pk_lt (fb_lt L w) K j
theorem bytesK_step {L : List Nat} {w n K : Nat} (h : K / 8 < n) : (bytesK L w n K).set (K / 8) (pk (fb L w) K (K / 8) + fb L w K * 2 ^ (K % 8)) = bytesK L w n (K + 1) := by
  apply List.ext_getElem?
  intro i
  rw [List.getElem?_set, bytesK_len]
  rcases Classical.em (K / 8 = i) with hi | hi
  · subst hi
    simp [bytesK, h, (pk_step (fb_lt L w) K).1]
  · rw [if_neg hi]
    rcases Nat.lt_or_ge i n with hn | hn
    · simp [bytesK, hn, pk_else K i (fun e => hi e.symm)]
    · simp [bytesK, Nat.not_lt.2 hn]
theorem bytesK_zero (L : List Nat) (w n : Nat) : bytesK L w n 0 = List.replicate n 0 := by
  apply List.ext_getElem?
  intro i
  rcases Nat.lt_or_ge i n with hn | hn
  · simp [bytesK, hn, pk_zero]
  · simp [bytesK, Nat.not_lt.2 hn]
/-- the sum of the first t bits from place s on -/
def val (g : Nat → Nat) : Nat → Nat
  | 0 => 0
  | t + 1 => val g t + g t * 2 ^ t
theorem val_lt {g : Nat → Nat} (hg : ∀ k, g k < 2) : ∀ t, val g t < 2 ^ t
  | 0 => by simp [val]
  | t + 1 => by
    have ih := val_lt hg t
    have : g t * 2 ^ t ≤ 1 * 2 ^ t := Nat.mul_le_mul_right _ (by have := hg t; omega)
    rw [val, Nat.pow_succ]
    omega
theorem val_bits (n : Nat) : ∀ t, val (fun j => n / 2 ^ j % 2) t = n % 2 ^ t
  | 0 => by simp [val, Nat.mod_one]
  | t + 1 => by
    rw [val, val_bits n t, Nat.pow_succ, Nat.mod_mul]
    rw [Nat.mul_comm]
theorem val_full {n t : Nat} (h : n < 2 ^ t) : val (fun j => n / 2 ^ j % 2) t = n := by rw [val_bits, Nat.mod_eq_of_lt h]
theorem val_congr {g h : Nat → Nat} : ∀ t, (∀ j, j < t → g j = h j) → val g t = val h t
  | 0, _ => rfl
  | t + 1, e => by rw [val, val, val_congr t (fun j hj => e j (by omega)), e t (by omega)]
end Go.Proofs.YtpbnabibnkohdaaGreatDoor.Pk
namespace Go.Proofs.YtpbnabibnkohdaaGreatDoor.Cr
set_option linter.unusedVariables false
/-- one shift of the register -/
def step1 (n : Nat) : Nat := if n % 2 = 1 then (n / 2) ^^^ 3988292384 else n / 2
def tab (i : Nat) : Nat := step1 (step1 (step1 (step1 (step1 (step1 (step1 (step1 i)))))))
def stp (r c : Nat) : Nat := (r / 256) ^^^ tab ((r % 256) ^^^ c)
def reg (l : List Nat) : Nat := l.foldl stp 4294967295
def crc (l : List Nat) : Nat := 4294967295 - reg l
theorem step1_lt {n : Nat} (h : n < 4294967296) : step1 n < 4294967296 := by
  unfold step1
  split
  · exact Nat.xor_lt_two_pow (n := 32) (by omega) (by omega)
  · omega
theorem tab_lt {i : Nat} (h : i < 4294967296) : tab i < 4294967296 := by
  unfold tab
  exact step1_lt (step1_lt (step1_lt (step1_lt (step1_lt (step1_lt (step1_lt (step1_lt h)))))))
theorem idx_lt {r c : Nat} (hc : c < 256) : (r % 256) ^^^ c < 256 := Nat.xor_lt_two_pow (n := 8) (by omega) (by omega)
theorem stp_lt {r c : Nat} (hr : r < 4294967296) (hc : c < 256) : stp r c < 4294967296 := by
  unfold stp
  exact Nat.xor_lt_two_pow (n := 32) (by omega) (tab_lt (by have := idx_lt (r := r) hc; omega))
theorem fold_lt (l : List Nat) : ∀ (r : Nat), r < 4294967296 → (∀ c ∈ l, c < 256) → l.foldl stp r < 4294967296 := by
  induction l with
  | nil => intro r hr _; exact hr
  | cons c l ih =>
    intro r hr h
    exact ih _ (stp_lt hr (h c (by simp))) (fun x hx => h x (by simp [hx]))
theorem reg_lt {l : List Nat} (h : ∀ c ∈ l, c < 256) : reg l < 4294967296 := fold_lt l _ (by decide) h
theorem reg_snoc (l : List Nat) (c : Nat) : reg (l ++ [c]) = stp (reg l) c := by simp [reg, List.foldl_append]
/-- a shift turned back -/
def undo1 (n : Nat) : Nat := if 2147483648 ≤ n then ((n ^^^ 3988292384) * 2 + 1) % 4294967296 else n * 2 % 4294967296
def undo (t : Nat) : Nat := undo1 (undo1 (undo1 (undo1 (undo1 (undo1 (undo1 (undo1 (t * 16777216)))))))) % 256
theorem undo_tab : ∀ i, i < 256 → undo (tab i / 16777216) = i := by decide +kernel
theorem top_inj {i j : Nat} (hi : i < 256) (hj : j < 256) (h : tab i / 16777216 = tab j / 16777216) : i = j := by
  rw [← undo_tab i hi, ← undo_tab j hj, h]
theorem xor_top {a b : Nat} (ha : a < 16777216) : (a ^^^ b) / 16777216 = b / 16777216 := by
  have h := @Nat.shiftRight_xor_distrib 24 a b
  rw [Nat.shiftRight_eq_div_pow, Nat.shiftRight_eq_div_pow, Nat.shiftRight_eq_div_pow] at h
  rw [show (2 : Nat) ^ 24 = 16777216 from rfl] at h
  rw [h, Nat.div_eq_of_lt ha, Nat.zero_xor]
theorem xor_cancel {a b c : Nat} (h : a ^^^ c = b ^^^ c) : a = b := by
  have := congrArg (· ^^^ c) h
  simpa [Nat.xor_assoc] using this
theorem xor_cancel' {a b c : Nat} (h : c ^^^ a = c ^^^ b) : a = b := by
  rw [Nat.xor_comm c a, Nat.xor_comm c b] at h
  exact xor_cancel h
theorem stp_inj {r s c : Nat} (hr : r < 4294967296) (hs : s < 4294967296) (hc : c < 256) (h : stp r c = stp s c) : r = s := by
  unfold stp at h
  have ht := congrArg (· / 16777216) h
  simp only [xor_top (show r / 256 < 16777216 by omega), xor_top (show s / 256 < 16777216 by omega)] at ht
  have hi := top_inj (idx_lt hc) (idx_lt hc) ht
  rw [hi] at h
  have h1 := xor_cancel h
  have h2 := xor_cancel hi
  omega
theorem stp_byte {r c d : Nat} (hr : r < 4294967296) (hc : c < 256) (hd : d < 256) (h : stp r c = stp r d) : c = d := by
  unfold stp at h
  have h1 := xor_cancel' h
  exact xor_cancel' (top_inj (idx_lt hc) (idx_lt hd) (by rw [h1]))
theorem fold_inj (l : List Nat) : ∀ (r s : Nat), r < 4294967296 → s < 4294967296 → (∀ c ∈ l, c < 256) → l.foldl stp r = l.foldl stp s → r = s := by
  induction l with
  | nil => intro r s _ _ _ h; exact h
  | cons c l ih =>
    intro r s hr hs hl h
    have hc := hl c (by simp)
    exact stp_inj hr hs hc (ih _ _ (stp_lt hr hc) (stp_lt hs hc) (fun x hx => hl x (by simp [hx])) h)
/-- one byte that differs changes the sum -/
theorem crc_set {l : List Nat} {i d : Nat} (hl : ∀ c ∈ l, c < 256) (hi : i < l.length) (hd : d < 256) (hne : l[i] ≠ d) : crc (l.set i d) ≠ crc l := by
  have hs : ∀ c ∈ l.set i d, c < 256 := fun c hc => by
    rcases List.mem_or_eq_of_mem_set hc with h | h
    · exact hl c h
    · omega
  have e1 : l.set i d = l.take i ++ d :: l.drop (i + 1) := List.set_eq_take_append_cons_drop.trans (by simp [hi])
  have e2 : l = l.take i ++ l[i] :: l.drop (i + 1) := by
    rw [← List.drop_eq_getElem_cons hi, List.take_append_drop]
  intro h
  have r1 := reg_lt hs
  have r2 := reg_lt hl
  unfold crc at h
  have h2 : reg (l.set i d) = reg l := by omega
  rw [e1] at h2
  have h3 : reg (l.take i ++ d :: l.drop (i + 1)) = reg (l.take i ++ l[i] :: l.drop (i + 1)) := h2.trans (congrArg reg e2)
  unfold reg at h3
  rw [List.foldl_append, List.foldl_append, List.foldl_cons, List.foldl_cons] at h3
  have ht : ∀ c ∈ l.take i, c < 256 := fun c hc => hl c (List.mem_of_mem_take hc)
  have hr := fold_lt (l.take i) 4294967295 (by decide) ht
  have hli := hl l[i] (List.getElem_mem hi)
  have h4 := fold_inj _ _ _ (stp_lt hr hd) (stp_lt hr hli) (fun c hc => hl c (List.mem_of_mem_drop hc)) h3
  exact hne (stp_byte hr hd hli h4).symm
theorem crc_digits : crc [49, 50, 51, 52, 53, 54, 55, 56, 57] = 3421780262 := by decide +kernel
end Go.Proofs.YtpbnabibnkohdaaGreatDoor.Cr
namespace Go.Proofs.YtpbnabibnkohdaaGreatDoor.Pk
open Cd Cr
set_option linter.unusedVariables false
def seal4 (s : Nat) : List Nat := [s % 256, s / 256 % 256, s / 65536 % 256, s / 16777216 % 256]
def In64 (n : Int) : Prop := -9223372036854775808 ≤ n ∧ n ≤ 9223372036854775807
theorem bytes_inj {n m : Int} {r s : List Nat} (hn : In64 n) (hm : In64 m) (h : bytesOf n ++ r = bytesOf m ++ s) : n = m ∧ r = s := by
  have h1 := dec_bytes (B := bytesOf n ++ r) (rest := r) (at_ := 0) hn.1 hn.2 rfl
  have h2 := dec_bytes (B := bytesOf n ++ r) (rest := s) (at_ := 0) hm.1 hm.2 (by simpa using h)
  rw [h1] at h2
  have e : n = m := by injection h2
  subst e
  exact ⟨rfl, List.append_cancel_left h⟩
theorem bytesOf_byte {n : Int} (h : In64 n) : ∀ c ∈ bytesOf n, c < 256 := enc_byte 9 _ (by rw [room_nine]; exact fld_lt h.1 h.2)
theorem bytesOf_len (n : Int) : 1 ≤ (bytesOf n).length ∧ (bytesOf n).length ≤ 10 := enc_len 9 _
theorem seal4_byte (s : Nat) : ∀ c ∈ seal4 s, c < 256 := fun c hc => by simp [seal4] at hc; omega
theorem seal4_inj {s t : Nat} (hs : s < 4294967296) (ht : t < 4294967296) (h : seal4 s = seal4 t) : s = t := by
  unfold seal4 at h
  injection h with h1 h
  injection h with h2 h
  injection h with h3 h
  injection h with h4 h
  omega
theorem drop_at (B : List Nat) (p : Nat) (h : p < B.length) : B.drop p = B.getD p 0 :: B.drop (p + 1) := by
  rw [List.drop_eq_getElem_cons h, List.getD_eq_getElem?_getD, List.getElem?_eq_getElem h]; rfl
theorem getD_byte {B : List Nat} (hB : ∀ c ∈ B, c < 256) (p : Nat) : B.getD p 0 < 256 := by
  rw [List.getD_eq_getElem?_getD]
  rcases Nat.lt_or_ge p B.length with h | h
  · rw [List.getElem?_eq_getElem h]; exact hB _ (List.getElem_mem _)
  · rw [List.getElem?_eq_none h]; decide
theorem fld_unf (u : Nat) : fld (unf u) = u := by unfold fld unf; split <;> split <;> omega
theorem unf_in {u : Nat} (h : u < 18446744073709551616) : In64 (unf u) := by unfold In64 unf; split <;> omega
theorem room_pos (f : Nat) : 128 ≤ room (f + 1) := by
  induction f with
  | zero => decide
  | succ f ih => rw [room]; omega
theorem go_canon (B : List Nat) (hB : ∀ c ∈ B, c < 256) (at_ : Nat) (f : Nat) : ∀ (i u : Nat) (n k : Int), f + i = 9 → at_ + i ≤ B.length → decGo B at_ (f + 1) i u = (n, k, 0) →
    ∃ v j : Nat, v < room f ∧ (0 < i → 0 < v) ∧ n = unf (u + v * 128 ^ i) ∧ k = (j : Int) ∧ at_ + i < j ∧ j ≤ B.length ∧ B.drop (at_ + i) = enc f v ++ B.drop j := by
  induction f with
  | zero =>
    intro i u n k hfi hle h
    obtain rfl : i = 9 := by omega
    rw [decGo] at h
    split at h
    · simp at h
    · rename_i hne
      split at h
      · rw [decGo] at h; simp at h
      · split at h
        · simp at h
        · rename_i hc hnz
          have hc1 : B.getD (at_ + 9) 0 = 1 := by omega
          simp only [Prod.mk.injEq] at h
          obtain ⟨h1, h2, _⟩ := h
          refine ⟨1, at_ + 9 + 1, by decide, fun _ => by decide, ?_, h2.symm, by omega, by omega, ?_⟩
          · rw [← h1, hc1]
          · rw [drop_at B (at_ + 9) (by omega), hc1]; rfl
  | succ f ih =>
    intro i u n k hfi hle h
    rw [decGo] at h
    split at h
    · simp at h
    · rename_i hne
      have hb := getD_byte hB (at_ + i)
      have hd := drop_at B (at_ + i) (by omega)
      obtain ⟨c, hc⟩ : ∃ c, B.getD (at_ + i) 0 = c := ⟨_, rfl⟩
      rw [hc] at h hb hd
      split at h
      · rename_i h127
        obtain ⟨v, j, hv, hp, hn, hk, hj, hl, hdr⟩ := ih (i + 1) _ n k (by omega) (by omega) h
        have hv1 := hp (by omega)
        have hsm : c % 128 * 128 ^ i < 18446744073709551616 := small_mul (f := f + 1) (by omega) (Nat.lt_of_lt_of_le (Nat.mod_lt _ (by decide)) (room_pos f))
        have e1 : (c % 128 + 128 * v) % 128 = c % 128 := by omega
        have e2 : (c % 128 + 128 * v) / 128 = v := by omega
        refine ⟨c % 128 + 128 * v, j, by rw [room]; omega, fun _ => by omega, ?_, hk, by omega, hl, ?_⟩
        · rw [hn, Nat.mod_eq_of_lt hsm, Nat.pow_succ, Nat.add_mul]
          congr 1
          have : v * (128 ^ i * 128) = 128 * v * 128 ^ i := by rw [Nat.mul_comm (128 ^ i) 128, ← Nat.mul_assoc, Nat.mul_comm v 128]
          omega
        · rw [enc_great f (by omega), e1, e2, hd, Nat.add_assoc, hdr, List.cons_append]
          congr 1
          omega
      · split at h
        · simp at h
        · rename_i hc1 hnz
          simp only [Prod.mk.injEq] at h
          obtain ⟨h1, h2, _⟩ := h
          have hsm : c % 128 * 128 ^ i < 18446744073709551616 := small_mul (f := f + 1) (by omega) (Nat.lt_of_lt_of_le (Nat.mod_lt _ (by decide)) (room_pos f))
          have e1 : c % 128 = c := Nat.mod_eq_of_lt (by omega)
          refine ⟨c, at_ + i + 1, Nat.lt_of_lt_of_le (by omega) (room_pos f), fun _ => by omega, ?_, h2.symm, by omega, by omega, ?_⟩
          · rw [← h1, Nat.mod_eq_of_lt hsm, e1]
          · rw [enc_small _ (by omega), hd]; rfl
theorem dec_canon {B : List Nat} (hB : ∀ c ∈ B, c < 256) {at_ : Nat} (hle : at_ ≤ B.length) {n k : Int} (h : dec B at_ = (n, k, 0)) :
    In64 n ∧ ∃ j : Nat, k = (j : Int) ∧ at_ < j ∧ j ≤ B.length ∧ B.drop at_ = bytesOf n ++ B.drop j := by
  obtain ⟨v, j, hv, _, hn, hk, hj, hl, hd⟩ := go_canon B hB at_ 9 0 0 n k rfl hle h
  rw [room_nine] at hv
  have e : n = unf v := by rw [hn]; simp
  subst e
  refine ⟨unf_in hv, j, hk, by omega, hl, ?_⟩
  unfold bytesOf
  rw [fld_unf]
  exact hd
end Go.Proofs.YtpbnabibnkohdaaGreatDoor.Pk
namespace Go.Proofs.YtpbnabibnkohdaaGreatDoor.Sg
open Go.ChangeShapes Go.WideShapes Go.RowKit Wo Sr Wi
set_option linter.unusedVariables false
theorem mul64_one (k : Nat) (hk : k ≤ 1000) (w : World) : Calls Tryz.prog 127 #[.int .u64 1, .int .u64 (k : Int)] w fun e w' => e = .returned (.tuple #[.int .u64 0, .int .u64 (k : Int)]) ∧ w = w' := by
  have a1 : bits .and .u64 1 4294967295 = 1 := by decide
  have a2 : bits .and .u64 (k : Int) 4294967295 = (k : Int) := by
    have h := bits_and_u64_nat k 4294967295 (by omega) (by omega)
    have e : k &&& 4294967295 = k % 4294967296 := Nat.and_two_pow_sub_one_eq_mod k 32
    rw [e, Nat.mod_eq_of_lt (by omega)] at h
    exact h
  have a3 : bits .and .u64 0 4294967295 = 0 := by decide
  have ki : (k : Int) ≤ 1000 := by omega
  have w1 : (k : Int) / 4294967296 = 0 := by omega
  have w2 : (k : Int) % 18446744073709551616 = (k : Int) := by omega
  have w3 : IntKind.u64.wrap (k : Int) = (k : Int) := by rw [IntKind.wrap_u64]; omega
  have w4 : IntKind.u64.wrap 0 = 0 := by decide
  clear ki
  go_enter Tryz.func127, Tryz.ntmps127
  go_wp2
  go_ret2
  exact ⟨rfl, rfl⟩
theorem mul_one (k : Nat) (hk : k ≤ 1000) (w : World) : Calls Tryz.prog 99 #[.int .u64 1, .int .u64 (k : Int)] w fun e w' => e = .returned (.tuple #[.int .u64 0, .int .u64 (k : Int)]) ∧ w = w' := by
  go_enter Tryz.func99, Tryz.ntmps99
  go_wp2_with (go_at_call 127; refine (mul64_one k hk _).mono ?_; rintro e w2 ⟨rfl, rfl⟩)
  go_ret2
  exact ⟨rfl, rfl⟩
theorem splice_zs (Z Y : List Int) (n : Nat) : splice (zs Z) n (zs Y) = zs (splice Z n Y) := by
  simp [splice, zs]
theorem splice_rep {Z : List Int} {x : Int} {k n q : Nat} (hl : Z.length = k) (hq : n + q ≤ k) (hz : ∀ i, i < n → Z.getD i 0 = x) : (splice Z n (List.replicate q x)).length = k ∧ ∀ i, i < n + q → (splice Z n (List.replicate q x)).getD i 0 = x := by
  refine ⟨by rw [length_splice _ _ _ (by simp; omega)]; exact hl, fun i hi => ?_⟩
  unfold splice
  rw [List.getD_eq_getElem?_getD]
  rcases Nat.lt_or_ge i n with h | h
  · rw [List.getElem?_append_left (by simp; omega), List.getElem?_take_of_lt h, ← List.getD_eq_getElem?_getD]
    exact hz i h
  · rw [List.getElem?_append_right (by simp; omega), List.getElem?_append_left (by simp; omega)]
    have e : i - min n Z.length < q := by omega
    simp [e]
theorem all_rep {Z : List Int} {x : Int} {k : Nat} (hl : Z.length = k) (hz : ∀ i, i < k → Z.getD i 0 = x) : Z = List.replicate k x := by
  apply List.ext_getElem?
  intro i
  rcases Nat.lt_or_ge i k with h | h
  · have := hz i h
    rw [List.getD_eq_getElem?_getD, List.getElem?_eq_getElem (by omega)] at this
    rw [List.getElem?_eq_getElem (by omega), List.getElem?_replicate, if_pos h]
    exact congrArg some this
  · rw [List.getElem?_eq_none (by omega), List.getElem?_eq_none (by simpa using h)]
theorem size_int : (Tryz.prog.info? 3).map (·.size) = some 1 := by kernel_rfl
set_option maxRecDepth 100000 in
set_option maxHeartbeats 4000000 in
theorem repeat_ok (g : Nat) (x : Int) (k : Nat) (k1 : 1 ≤ k) (k2 : k ≤ 300) (w : World) (hc : w.cell? ⟨g, 0, none⟩ = some (.int .i64 x)) :
    Calls Tryz.prog 66 #[.slice (some ⟨g, 0, none⟩) 1 1, .int .i64 (k : Int)] w fun e w' => e = .returned (.slice (some ⟨w.heap.size, 0, none⟩) k k) ∧ Bk w' w.heap.size 3 (zs (List.replicate k x)).toArray ∧ Bel w w' := by
  have ki1 : 1 ≤ (k : Int) := by omega
  have ki2 : (k : Int) ≤ 300 := by omega
  have wk : IntKind.u64.wrap (k : Int) = (k : Int) := by rw [IntKind.wrap_u64]; omega
  have wk2 : wrap64 (k : Int) = (k : Int) := IntWalk.wrap64_in _ (by omega)
  have wk3 : IntKind.i64.wrap (k : Int) = (k : Int) := IntWalk.i64_in _ (by omega)
  obtain ⟨i0, hi0, hz0, hz1, hz2⟩ := info_parts info_int
  have HI := Lib.hid (And.intro hi0 (And.intro hz0 (And.intro hz1 hz2)))
  have HC := Lib.hid hc
  have hw := World.block_lt_of_cell? w _ hc
  have HNW := Lib.hid (Bk.nw w 3 (zs (List.replicate k 0)).toArray)
  have HCA : Hid ((w.alloc (.cells (zs (List.replicate k 0)).toArray 3)).cell? ⟨g, 0, none⟩ = some (.int .i64 x)) := kp_al hc _
  have HMIN : Hid ((zs [x]).length = Nat.min 1 k) := by show 1 = min 1 k; omega
  have HFT : Hid (0 + (zs [x]).length ≤ (zs (List.replicate k 0)).length) := by show 0 + 1 ≤ _; rw [zs_len, List.length_replicate]; omega
  have HSR0 : Hid (∀ j v, (zs [x])[j]? = some v → (w.alloc (.cells (zs (List.replicate k 0)).toArray 3)).cell? ((⟨g, 0, none⟩ : Addr).add j) = some v) := fun j v hv => by
    rcases j with _ | j
    · have hv2 : Value.int .i64 x = v := by simpa [zs] using hv
      rw [← hv2]; exact HCA.out
    · simp [zs] at hv
  clear hi0 hz0 hz1 hz2 hc hw
  go_enter Tryz.func66, Tryz.ntmps66
  go_wp2_with (first
    | (go_at_call 99; refine (mul_one k (by omega) _).mono ?_; rintro e w2 ⟨rfl, rfl⟩)
    | (refine wpList_make_any _ rfl (.tmp 29) (.tmp 29) 22 rfl 3 i0 (.int .i64 0) 1 Tryz.underlying22 HI.out.1 HI.out.2.1 HI.out.2.2.1 .i64 .i64 _ _ k k rfl rfl rfl rfl (by omega) (by rw [HI.out.2.2.2]; omega) (by omega) ?_; rw [made_i64])
    | (refine wpList_copy_splice rfl (.tmp 31) (.tmp 32) 22 22 rfl 3 Tryz.underlying22 size_int (some ⟨w.heap.size, 0, none⟩) (some ⟨g, 0, none⟩) k k 1 1 rfl rfl w.heap.size 0 (zs (List.replicate k 0)) 3 HNW.out (zs [x]) HMIN.out (fun _ => ⟨rfl, _, rfl, HSR0.out⟩) HFT.out (zs_one _) w.heap.size w (Bel.rf.al _) (Nat.le_refl _) ?_; intro w2 hg2 hb2))
  go_loopw [8] (fun s8 wr => ∃ (t : Nat) (V : World) (Z : List Int), V = wr ∧ 1 ≤ t ∧ t ≤ k ∧ s8 = .int .i64 (t : Int) ∧ Z.length = k ∧ (∀ i, i < t → Z.getD i 0 = x) ∧ Bk wr w.heap.size 3 (zs Z).toArray ∧ Bel w wr) (fun s8 _ => k - (intOf s8).toNat)
  case atStart =>
    rw [splice_zs] at hg2
    have h := splice_rep (Z := List.replicate k 0) (x := x) (k := k) (n := 0) (q := 1) (by simp) (by omega) (fun i hi => by omega)
    exact ⟨1, _, _, rfl, by omega, by omega, rfl, h.1, h.2, hg2.out, hb2⟩
  case round =>
    obtain ⟨t, wr, Z, hwr, ht1, htk, rfl, hlz, hzt, hk, hb⟩ := hrel
    subst hwr
    clear hg2 hb2 wk wk2 wk3
    have HK := Lib.hid hk
    have HB := Lib.hid hb
    have HZT := Lib.hid hzt
    have HLZ := Lib.hid hlz
    have hlt := hk.lt
    clear hk hb hzt hlz
    rcases Nat.lt_or_ge t k with h | h
    · obtain ⟨y, hy⟩ : ∃ y, Nat.min t (k - t) = y := ⟨_, rfl⟩
      have hy1 : y ≤ t ∧ y ≤ k - t ∧ 1 ≤ y := by rw [← hy]; show min t (k - t) ≤ t ∧ min t (k - t) ≤ k - t ∧ 1 ≤ min t (k - t); omega
      have hkt : ¬ k = t := by omega
      have hti : (t : Int) < (k : Int) := by omega
      have hti2 : (t : Int) ≤ (k : Int) := by omega
      have htl : t ≤ k := htk
      have HSR := Lib.hid (splice_rep HLZ.out (x := x) (n := t) (q := y) (by omega) HZT.out)
      have HY := Lib.hid (And.intro hy hy1)
      obtain ⟨z, hz⟩ : ∃ z, t + y = z := ⟨_, rfl⟩
      have hzi : (t : Int) + (y : Int) = (z : Int) := by omega
      have hzk : z ≤ k ∧ t < z := by omega
      have HZZ := Lib.hid (And.intro hz hzk)
      have HL1 : Hid ((zs (List.replicate y x)).length = Nat.min t (k - t)) := by show _ = _; rw [zs_len, List.length_replicate]; exact HY.out.1.symm
      have HL2 : Hid (t + (zs (List.replicate y x)).length ≤ (zs Z).length) := by show _ ≤ _; rw [zs_len, zs_len, List.length_replicate, HLZ.out]; have := HY.out; omega
      have hzl : (zs (List.replicate y x)).length = y := by rw [zs_len, List.length_replicate]
      have zb : -9223372036854775808 ≤ (z : Int) ∧ (z : Int) ≤ 9223372036854775807 := by omega
      have wy : wrap64 (z : Int) = (z : Int) := IntWalk.wrap64_in _ zb
      have wy3 : IntKind.i64.wrap (z : Int) = (z : Int) := IntWalk.i64_in _ zb
      clear hz hzk zb
      clear hy hy1
      have HSRC : Hid (∀ W, Bk W w.heap.size 3 (zs Z).toArray → ∀ j v, (zs (List.replicate y x))[j]? = some v → W.cell? ((⟨w.heap.size, 0, none⟩ : Addr).add j) = some v) := fun W hW j v hv => by
        have hj : j < y := by
          rcases Nat.lt_or_ge j y with h | h
          · exact h
          · rw [List.getElem?_eq_none (by simpa [zs] using h)] at hv; cases hv
        have hz := (zi_bk hW k HLZ.out).at j (by have := HY.out; omega)
        rw [HZT.out j (by have := HY.out; omega)] at hz
        simp [zs, hj] at hv
        rw [add_row, ← hv]
        exact hz
      go_wp2
      go_region_law (refine step_copy_splice rfl (.tmp 41) (.tmp 44) 22 22 rfl 3 Tryz.underlying22 size_int (some ⟨w.heap.size, t, none⟩) (some ⟨w.heap.size, 0, none⟩) (k - t) (k - t) t k (by simp [Act.eval, Act.put]) (by simp [Act.eval, Act.put]) w.heap.size t (zs Z) 3 (by first | exact HK.out | exact HK.out.drwN _ | exact HK.out.drw) (zs (List.replicate y x)) HL1.out (fun _ => ⟨rfl, _, rfl, by first | exact HSRC.out _ HK.out | exact HSRC.out _ (HK.out.drwN _) | exact HSRC.out _ HK.out.drw⟩) HL2.out (zs_one _) w.heap.size w (by first | exact HB.out | exact HB.out.drwN _ | exact HB.out.drw) (Nat.le_refl _) ?_; intro w4 hg4 hb4)
      all_goals
        rw [splice_zs] at hg4
        (try simp only [hzl, hzi, wy3])
        (try go_simp)
        go_roundw
        case rel =>
          refine ⟨_, _, _, _, _, _, _, _, _, _, _, _, _, _, ?_, rfl⟩
          exact ⟨z, _, _, rfl, by have := HZZ.out; omega, HZZ.out.2.1, by first | rfl | go_num, HSR.out.1, by rw [← HZZ.out.1]; exact HSR.out.2, hg4.out, hb4⟩
        case measure => (have := HZZ.out; simp [intOf]; omega)
    · obtain rfl : t = k := by omega
      have e := all_rep HLZ.out HZT.out
      have HK2 := HK
      rw [e] at HK2
      clear e
      go_wp2
      go_ret
      exact ⟨rfl, HK2.out, HB.out⟩
def SomeRep (x : Int) (k : Nat) (w : World) (e : Ending) (w' : World) : Prop := ∃ a, e = .returned (.slice (some ⟨a, 0, none⟩) k k) ∧ w.heap.size ≤ a ∧ Zi w' (some ⟨a, 0, none⟩) k (List.replicate k x) ∧ Bel w w'
set_option maxRecDepth 100000 in
set_option maxHeartbeats 1000000 in
theorem repeat_zero (g : Nat) (x : Int) (w : World) (hc : w.cell? ⟨g, 0, none⟩ = some (.int .i64 x)) :
    Calls Tryz.prog 66 #[.slice (some ⟨g, 0, none⟩) 1 1, .int .i64 0] w (SomeRep x 0 w) := by
  have hm : ∀ W, Calls Tryz.prog 99 #[.int .u64 1, .int .u64 0] W fun e w' => e = .returned (.tuple #[.int .u64 0, .int .u64 0]) ∧ W = w' := fun W => mul_one 0 (by omega) W
  have HM := Lib.hid hm
  clear hm
  obtain ⟨i0, hi0, hz0, hz1, hz2⟩ := info_parts info_int
  have HI := Lib.hid (And.intro hi0 (And.intro hz0 (And.intro hz1 hz2)))
  have w3 : IntKind.u64.wrap 0 = 0 := by decide
  have w4 : IntKind.u64.wrap 1 = 1 := by decide
  have HNW := Lib.hid (Bk.nw w 3 (zs (List.replicate 0 0)).toArray)
  have HMIN : Hid ((zs []).length = Nat.min 1 0) := rfl
  have HFT : Hid (0 + (zs []).length ≤ (zs (List.replicate 0 0)).length) := Nat.le_refl _
  have HSR0 : Hid (∀ j v, (zs [])[j]? = some v → (w.alloc (.cells (zs (List.replicate 0 0)).toArray 3)).cell? ((⟨g, 0, none⟩ : Addr).add j) = some v) := fun j v hv => by simp [zs] at hv
  clear hc hi0 hz0 hz1 hz2
  go_enter Tryz.func66, Tryz.ntmps66
  go_wp2_with (first
    | (go_at_call 99; refine (HM.out _).mono ?_; rintro e w2 ⟨rfl, rfl⟩)
    | (refine wpList_make_any _ rfl (.tmp 29) (.tmp 29) 22 rfl 3 i0 (.int .i64 0) 1 Tryz.underlying22 HI.out.1 HI.out.2.1 HI.out.2.2.1 .i64 .i64 _ _ 0 0 rfl rfl rfl rfl (by omega) (by rw [HI.out.2.2.2]; omega) (by omega) ?_; rw [made_i64])
    | (refine wpList_copy_splice rfl (.tmp 31) (.tmp 32) 22 22 rfl 3 Tryz.underlying22 size_int (some ⟨w.heap.size, 0, none⟩) (some ⟨g, 0, none⟩) 0 0 1 1 rfl rfl w.heap.size 0 (zs (List.replicate 0 0)) 3 HNW.out (zs []) HMIN.out (fun _ => ⟨rfl, _, rfl, HSR0.out⟩) HFT.out (zs_one _) w.heap.size w (Bel.rf.al _) (Nat.le_refl _) ?_; intro w2 hg2 hb2))
  go_loopw [8] (fun s8 wr => ∃ V : World, V = wr ∧ s8 = .int .i64 0 ∧ Bel w wr) (fun _ _ => 0)
  case atStart => exact ⟨_, rfl, rfl, hb2⟩
  case round =>
    clear hg2 hb2
    obtain ⟨wr, hwr, rfl, hb⟩ := hrel
    subst hwr
    have HB := Lib.hid hb
    clear hb
    go_wp2
    go_ret
    exact ⟨w.heap.size, rfl, Nat.le_refl _, ⟨rfl, fun h => by omega⟩, HB.out⟩
theorem repeat_any (g : Nat) (x : Int) (k : Nat) (k2 : k ≤ 300) (w : World) (hc : w.cell? ⟨g, 0, none⟩ = some (.int .i64 x)) :
    Calls Tryz.prog 66 #[.slice (some ⟨g, 0, none⟩) 1 1, .int .i64 (k : Int)] w (SomeRep x k w) := by
  rcases Nat.eq_zero_or_pos k with h | h
  · subst h; exact repeat_zero g x w hc
  · refine (repeat_ok g x k h k2 w hc).mono ?_
    rintro e w' ⟨rfl, hk, hb⟩
    exact ⟨w.heap.size, rfl, Nat.le_refl _, zi_bk hk k (by simp), hb⟩
end Go.Proofs.YtpbnabibnkohdaaGreatDoor.Sg
