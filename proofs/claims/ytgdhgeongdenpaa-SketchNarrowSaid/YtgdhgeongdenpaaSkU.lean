/- sketch.Upper of windows. -/
import Derived.Test.YtgdhgeongdenpaaSkO
namespace Go.Proofs.Ytgdhgeongdenpaa.Sk
open Go.ChangeShapes Go.WideShapes Go.RowKit Wo Sr Wi Nr Pc Eu Ra
set_option linter.unusedVariables false
theorem tq_bd {f : Nat → Int} {n : Nat} {B : Int} (h : ∀ i, i < n → -B ≤ f i ∧ f i ≤ B) : ∀ i, i ≤ n → -(B * (i : Int)) ≤ tq f i ∧ tq f i ≤ B * (i : Int)
  | 0, _ => by simp [tq]
  | i + 1, hi => by
    have h1 := tq_bd h i (by omega)
    have h2 := h i (by omega)
    have e : B * ((i + 1 : Nat) : Int) = B * (i : Int) + B := by rw [show ((i + 1 : Nat) : Int) = (i : Int) + 1 by omega, Int.mul_add, Int.mul_one]
    show -(B * ((i + 1 : Nat) : Int)) ≤ tq f i + f i ∧ tq f i + f i ≤ _
    rw [e]
    omega
/-- the sum of the first quotients of products, rounded up -/
def tc (X Y : List Int) (m n i : Nat) : Int := tq (fun k => cl (pa X m n k * pa Y m n k) (ln m n k : Int)) i
theorem tc_in {X Y : List Int} {m n : Nat} (h : Pb X m n) (k : Pb Y m n) (n1 : 1 ≤ n) (nm : n ≤ m) (n8 : n ≤ 8) (i : Nat) (hi : i ≤ n) : -33554432000000 ≤ tc X Y m n i ∧ tc X Y m n i ≤ 33554432000000 := by
  have := tq_bd (f := fun k => cl (pa X m n k * pa Y m n k) (ln m n k : Int)) (n := n) (B := 4194304000000) (fun j hj => by
    have hp := ln_pos m n j n1 nm
    have b := mul_bd (A := 2048000) (B := 2048000) (by decide) (by decide) (h j hj).1 (h j hj).2 (k j hj).1 (k j hj).2
    exact cl_bd (by omega) (by decide) (by omega) (by omega)) i hi
  unfold tc
  omega
/-- a sketch that lies as value -/
def Skz (w : World) (a n m : Nat) (X : List Int) : Prop := Zi w (some ⟨a, 0, none⟩) n (pls (cen X) m n)
theorem Skz.bel {w w' : World} {a n m : Nat} {X : List Int} (h : Skz w a n m X) (hb : Bel w w') : Skz w' a n m X := Zi.bel h hb
set_option maxHeartbeats 16000000 in
set_option maxRecDepth 100000 in
theorem Upper_ok (a c b d m n : Nat) (X Y : List Int) (m2 : 2 ≤ m) (m32 : m ≤ 32) (n1 : 1 ≤ n) (n8 : n ≤ 8) (nm : n ≤ m) (hs : Sam X) (ht : Sam Y) (hX : X.length = m) (hY : Y.length = m) (w : World) (hz : Skz w a n m X) (hy : Skz w b n m Y) :
    Calls Try.prog 73 #[skv a c m n ((m : Int) * vr X), skv b d m n ((m : Int) * vr Y)] w fun e w' => e = .returned (.tuple #[.int .i64 (upv X Y m n), .int .i64 0]) ∧ Bel w w' := by
  have ex := cen_en hX hs m32
  have ey := cen_en hY ht m32
  have px := cen_pb (n := n) hs hX m32 n1
  have py := cen_pb (n := n) ht hY m32 n1
  have rx := rsd_in (cen X) m n (by rw [cen_len', hX]) n1 nm
  have ry := rsd_in (cen Y) m n (by rw [cen_len', hY]) n1 nm
  have fx : rsd (cen X) m n = (m : Int) * vr X - tf (cen X) m n n := by unfold rsd tf; rw [ex.2.2.2]
  have fy : rsd (cen Y) m n = (m : Int) * vr Y - tf (cen Y) m n n := by unfold rsd tf; rw [ey.2.2.2]
  have VX : Hid (∀ W, Bel w W → Calls Try.prog 62 #[.agg #[.int .i64 (m : Int), .slice (some ⟨a, 0, none⟩) n c, .int .i64 ((m : Int) * vr X)]] W fun e w' => e = .returned (.bool true) ∧ Bel W w') := fun W hW => valid_ok a c m n _ (vr X) (cen X) px rfl ex.1 ex.2.1 (by omega) m2 m32 n1 n8 nm W (hz.bel hW)
  have VY : Hid (∀ W, Bel w W → Calls Try.prog 62 #[.agg #[.int .i64 (m : Int), .slice (some ⟨b, 0, none⟩) n d, .int .i64 ((m : Int) * vr Y)]] W fun e w' => e = .returned (.bool true) ∧ Bel W w') := fun W hW => valid_ok b d m n _ (vr Y) (cen Y) py rfl ey.1 ey.2.1 (by omega) m2 m32 n1 n8 nm W (hy.bel hW)
  have RX : Hid (∀ W, Bel w W → Calls Try.prog 99 #[.agg #[.int .i64 (m : Int), .slice (some ⟨a, 0, none⟩) n c, .int .i64 ((m : Int) * vr X)]] W fun e w' => e = .returned (.int .i64 (rsd (cen X) m n)) ∧ Bel W w') := fun W hW => by
    rw [fx]; exact residual_ok a c m n _ (cen X) px ex.1 (by omega) m2 m32 n1 n8 nm W (hz.bel hW)
  have RY : Hid (∀ W, Bel w W → Calls Try.prog 99 #[.agg #[.int .i64 (m : Int), .slice (some ⟨b, 0, none⟩) n d, .int .i64 ((m : Int) * vr Y)]] W fun e w' => e = .returned (.int .i64 (rsd (cen Y) m n)) ∧ Bel W w') := fun W hW => by
    rw [fy]; exact residual_ok b d m n _ (cen Y) py ey.1 (by omega) m2 m32 n1 n8 nm W (hy.bel hW)
  have LX : Hid (∀ W, Calls Try.prog 103 #[.agg #[.int .i64 (m : Int), .slice (some ⟨a, 0, none⟩) n c, .int .i64 ((m : Int) * vr X)]] W fun e w' => ∃ g, e = .returned (.slice (some ⟨g, 0, none⟩) n n) ∧ W.heap.size ≤ g ∧ Bk w' g 3 (zs (lns m n)).toArray ∧ Bel W w') := fun W => lengths_ok a c m n _ m2 m32 n1 n8 nm W
  have CX : Hid (∀ W, Calls Try.prog 107 #[.int .i64 (rsd (cen X) m n)] W fun e w' => e = .returned (.int .i64 (Rt.cei (rsd (cen X) m n))) ∧ W = w') := fun W => Rt.ceil_any _ W
  have CY : Hid (∀ W, Calls Try.prog 107 #[.int .i64 (rsd (cen Y) m n)] W fun e w' => e = .returned (.int .i64 (Rt.cei (rsd (cen Y) m n))) ∧ W = w') := fun W => Rt.ceil_any _ W
  have ui := ups_in (cen X) (cen Y) m n (by rw [cen_len', hX]) (by rw [cen_len', hY]) n1 nm n8 32768000000 (by decide) (by omega) (by omega)
  have zX := Rt.cei_bd (rsd (cen X) m n)
  have zY := Rt.cei_bd (rsd (cen Y) m n)
  have lX := cei_le (n := rsd (cen X) m n) (B := 181020) rx.1 (by decide) (by omega) (by omega)
  have lY := cei_le (n := rsd (cen Y) m n) (B := 181020) ry.1 (by decide) (by omega) (by omega)
  have FK : Hid (∀ W, Calls Try.prog 50 #[.int .i64 (ups (cen X) (cen Y) m n), .int .i64 (m : Int)] W fun e w' => e = .returned (.int .i64 (upv X Y m n)) ∧ W = w') := fun W => Un.floor_any _ _ (by omega) (by omega) (by omega) (by omega) W
  have HUP : Hid (ups (cen X) (cen Y) m n = Rt.cei (rsd (cen X) m n) * Rt.cei (rsd (cen Y) m n) + tc (cen X) (cen Y) m n n) := rfl
  have HTC : Hid (∀ i, i ≤ n → -33554432000000 ≤ tc (cen X) (cen Y) m n i ∧ tc (cen X) (cen Y) m n i ≤ 33554432000000) := tc_in px py n1 nm n8
  have HPX := Lib.hid px
  have HPY := Lib.hid py
  have HZ := Lib.hid hz
  have HY := Lib.hid hy
  obtain ⟨RXv, hRX⟩ : ∃ x, rsd (cen X) m n = x := ⟨_, rfl⟩
  obtain ⟨RYv, hRY⟩ : ∃ x, rsd (cen Y) m n = x := ⟨_, rfl⟩
  rw [hRX] at RX CX zX lX HUP
  rw [hRY] at RY CY zY lY HUP
  obtain ⟨P, hP⟩ : ∃ x, Rt.cei RXv = x := ⟨_, rfl⟩
  obtain ⟨Q, hQ⟩ : ∃ x, Rt.cei RYv = x := ⟨_, rfl⟩
  rw [hP] at CX zX lX HUP
  rw [hQ] at CY zY lY HUP
  obtain ⟨U, hU⟩ : ∃ x, ups (cen X) (cen Y) m n = x := ⟨_, rfl⟩
  rw [hU] at FK HUP ui
  obtain ⟨VV, hVV⟩ : ∃ x, upv X Y m n = x := ⟨_, rfl⟩
  rw [hVV] at FK
  rw [hVV]
  obtain ⟨EX, hEX⟩ : ∃ x, (m : Int) * vr X = x := ⟨_, rfl⟩
  obtain ⟨EY, hEY⟩ : ∃ x, (m : Int) * vr Y = x := ⟨_, rfl⟩
  rw [hEX] at VX RX LX
  rw [hEX]
  rw [hEY] at VY RY
  rw [hEY]
  have pq : 0 ≤ P * Q := Int.mul_nonneg zX.1 zY.1
  have pq2 : P * Q ≤ 181020 * 181020 := Int.mul_le_mul lX lY zY.1 (by omega)
  obtain ⟨PQ, hPQ⟩ : ∃ x, P * Q = x := ⟨_, rfl⟩
  rw [hPQ] at pq pq2 HUP
  have w1 : IntKind.i64.wrap (P * Q) = PQ := by rw [hPQ]; exact IntWalk.i64_in _ (by omega)
  have i1 : (n : Int) ≤ 8 := by omega
  have i2 : 1 ≤ (n : Int) := by omega
  have i3 : (m : Int) ≤ 32 := by omega
  have i4 : 2 ≤ (m : Int) := by omega
  have kn := ne_self (n : Int)
  have km := ne_self (m : Int)
  clear hz hy px py rx ry fx fy ex ey hRX hRY hP hQ hU hVV hEX hEY hPQ zX zY lX lY hs ht hX hY ui
  unfold skv
  go_enter Try.func73, Try.ntmps73
  obtain ⟨w0, hw0⟩ : ∃ W, (w.alloc (.cells #[.int .i64 (m : Int), .slice (some ⟨a, 0, none⟩) n c, .int .i64 EX] 64)).alloc (.cells #[.int .i64 (m : Int), .slice (some ⟨b, 0, none⟩) n d, .int .i64 EY] 64) = W := ⟨_, rfl⟩
  have HB0 : Hid (Bel w w0) := by show Bel w w0; rw [← hw0]; exact (Bel.rf.al _).al _
  have HKA : Hid (Bk w0 w.heap.size 64 #[.int .i64 (m : Int), .slice (some ⟨a, 0, none⟩) n c, .int .i64 EX]) := by show Bk w0 _ _ _; rw [← hw0]; exact (Bk.nw _ _ _).al _
  have HKB : Hid (Bk w0 (w.heap.size + 1) 64 #[.int .i64 (m : Int), .slice (some ⟨b, 0, none⟩) n d, .int .i64 EY]) := by show Bk w0 _ _ _; rw [← hw0]; exact Bk.nq _ _ _ (by simp)
  have a0 : w0.cell? ⟨w.heap.size, 0, none⟩ = some (.int .i64 (m : Int)) := HKA.out.cell 0
  have a1 : w0.cell? ⟨w.heap.size, 1, none⟩ = some (.slice (some ⟨a, 0, none⟩) n c) := HKA.out.cell 1
  have a2 : w0.cell? ⟨w.heap.size, 2, none⟩ = some (.int .i64 EX) := HKA.out.cell 2
  have al := HKA.out.lt
  go_wp2_with fail
  go_at_call 62
  refine (VX.out _ HB0.out).mono ?_
  rintro e w3 ⟨rfl, hb⟩
  have HB1 : Hid (Bel w w3) := HB0.out.tr hb
  have HKA1 := Lib.hid (HKA.out.bel hb)
  have HKB1 := Lib.hid (HKB.out.bel hb)
  have b0 : w3.cell? ⟨w.heap.size + 1, 0, none⟩ = some (.int .i64 (m : Int)) := HKB1.out.cell 0
  have b1 : w3.cell? ⟨w.heap.size + 1, 1, none⟩ = some (.slice (some ⟨b, 0, none⟩) n d) := HKB1.out.cell 1
  have b2 : w3.cell? ⟨w.heap.size + 1, 2, none⟩ = some (.int .i64 EY) := HKB1.out.cell 2
  have bl := HKB1.out.lt
  clear hb hw0 HKA HKB HB0 a0 a1 a2 al
  go_wp2_with fail
  go_at_call 62
  refine (VY.out _ HB1.out).mono ?_
  rintro e w4 ⟨rfl, hb⟩
  have HB2 : Hid (Bel w w4) := HB1.out.tr hb
  have HKA2 := Lib.hid (HKA1.out.bel hb)
  have HKB2 := Lib.hid (HKB1.out.bel hb)
  have HKS : Hid (∀ W, Bel w4 W → Bel w4 W ∧ W.cell? ⟨w.heap.size, 0, none⟩ = some (.int .i64 (m : Int)) ∧ W.cell? ⟨w.heap.size, 1, none⟩ = some (.slice (some ⟨a, 0, none⟩) n c) ∧ W.cell? ⟨w.heap.size, 2, none⟩ = some (.int .i64 EX) ∧ W.cell? ⟨w.heap.size + 1, 0, none⟩ = some (.int .i64 (m : Int)) ∧ W.cell? ⟨w.heap.size + 1, 1, none⟩ = some (.slice (some ⟨b, 0, none⟩) n d) ∧ W.cell? ⟨w.heap.size + 1, 2, none⟩ = some (.int .i64 EY)) := fun W hW => ⟨hW, (HKA2.out.bel hW).cell 0, (HKA2.out.bel hW).cell 1, (HKA2.out.bel hW).cell 2, (HKB2.out.bel hW).cell 0, (HKB2.out.bel hW).cell 1, (HKB2.out.bel hW).cell 2⟩
  obtain ⟨_, a0, a1, a2, b0, b1, b2⟩ := HKS.out w4 Bel.rf
  have al := HKA2.out.lt
  have bl := HKB2.out.lt
  clear hb HKA1 HKB1
  go_wp2_with fail
  go_region_held3 (fun W => Bel w4 W ∧ W.cell? ⟨w.heap.size, 0, none⟩ = some (.int .i64 (m : Int)) ∧ W.cell? ⟨w.heap.size, 1, none⟩ = some (.slice (some ⟨a, 0, none⟩) n c) ∧ W.cell? ⟨w.heap.size, 2, none⟩ = some (.int .i64 EX) ∧ W.cell? ⟨w.heap.size + 1, 0, none⟩ = some (.int .i64 (m : Int)) ∧ W.cell? ⟨w.heap.size + 1, 1, none⟩ = some (.slice (some ⟨b, 0, none⟩) n d) ∧ W.cell? ⟨w.heap.size + 1, 2, none⟩ = some (.int .i64 EY)) ((refine HKS.out _ ?_; repeat (first | exact HB4.out | exact HB3.out | exact Bel.rf | (with_reducible refine Bel.drwN ?_ _) | (with_reducible refine Bel.drw ?_)))) (first
    | (go_at_call 99; (with_reducible refine (RX.out _ (HB2.out.tr (by repeat (first | exact HB4.out | exact HB3.out | exact Bel.rf | (with_reducible refine Bel.drwN ?_ _) | (with_reducible refine Bel.drw ?_))))).mono ?_); rintro e w5 ⟨rfl, hb5⟩; have HB3 : Hid (Bel w4 w5) := Bel.tr (by repeat (first | exact HB4.out | exact Bel.rf | (with_reducible refine Bel.drwN ?_ _) | (with_reducible refine Bel.drw ?_))) hb5; clear hb5)
    | (go_at_call 99; (with_reducible refine (RY.out _ (HB2.out.tr (by repeat (first | exact HB4.out | exact HB3.out | exact Bel.rf | (with_reducible refine Bel.drwN ?_ _) | (with_reducible refine Bel.drw ?_))))).mono ?_); rintro e w6 ⟨rfl, hb6⟩; have HB4 : Hid (Bel w4 w6) := Bel.tr (by repeat (first | exact HB3.out | exact Bel.rf | (with_reducible refine Bel.drwN ?_ _) | (with_reducible refine Bel.drw ?_))) hb6; clear hb6)
    | (go_at_call 107; (with_reducible refine (CX.out _).mono ?_); rintro e w7 ⟨rfl, rfl⟩)
    | (go_at_call 107; (with_reducible refine (CY.out _).mono ?_); rintro e w7 ⟨rfl, rfl⟩))
  have HB5 : Hid (Bel w4 w6) := HB4
  obtain ⟨_, a0, a1, a2, b0, b1, b2⟩ := HKS.out w6 HB5.out
  have al := (HKA2.out.bel HB5.out).lt
  clear HB3 HB4 VX VY RX RY CX CY
  go_wp2_with fail
  go_at_call 103
  refine (LX.out _).mono ?_
  rintro e w7 ⟨g, rfl, hg, hbk, hb7⟩
  have HG : Hid (Zi w7 (some ⟨g, 0, none⟩) n (lns m n)) := zi_bk hbk n (lns_len m n)
  have HB7 : Hid (Bel w4 w7) := HB5.out.tr hb7
  clear hb7 hg hbk a0 a1 a2 b0 b1 b2
  go_wp2
  go_loopw [6, 41] (fun s6 s41 wr => ∃ (k : Nat) (V : World) (r : Int), V = wr ∧ k ≤ n ∧ s41 = .int .i64 (k : Int) ∧ s6 = .int .i64 r ∧ r = PQ + tc (cen X) (cen Y) m n k ∧ Bel w7 wr) (fun _ s41 _ => n - (intOf s41).toNat)
  case atStart => exact ⟨0, _, PQ, rfl, by omega, rfl, rfl, by simp [tc, tq], by first | exact Bel.rf | exact Bel.rf.drwN _⟩
  case round =>
    obtain ⟨k, wr, r, hwr, hk, rfl, rfl, hr, hb⟩ := hrel
    subst hwr
    have HB := Lib.hid hb
    have HR := Lib.hid hr
    have tb := HTC.out k hk
    have r0 : -33554432000000 ≤ r := by omega
    have r1 : r ≤ 66554432000000 := by omega
    clear tb
    have hw : Bel w wr := (HB2.out.tr HB7.out).tr hb
    rcases Nat.lt_or_ge k n with hlt | hge
    · have c1 := (HG.out.bel hb).at k hlt
      have c2 := (HZ.out.bel hw).at k hlt
      have c3 := (HY.out.bel hw).at k hlt
      rw [lns_at m n k hlt] at c1
      rw [pls_pa (cen X) m n k hlt] at c2
      rw [pls_pa (cen Y) m n k hlt] at c3
      obtain ⟨_, a0, a1, a2, b0, b1, b2⟩ := HKS.out wr (HB7.out.tr hb)
      have al := (HKA2.out.bel (HB7.out.tr hb)).lt
      have bl := (HKB2.out.bel (HB7.out.tr hb)).lt
      have lp := ln_pos m n k n1 nm
      have ll := ln_le m n k n1 hlt
      have px := HPX.out k hlt
      have py := HPY.out k hlt
      have mb := mul_bd (A := 2048000) (B := 2048000) (by decide) (by decide) px.1 px.2 py.1 py.2
      have HT : Hid (tc (cen X) (cen Y) m n (k + 1) = tc (cen X) (cen Y) m n k + cl (pa (cen X) m n k * pa (cen Y) m n k) (ln m n k : Int)) := rfl
      have cb := cl_bd (a := pa (cen X) m n k * pa (cen Y) m n k) (l := (ln m n k : Int)) (B := 4194304000000) (by omega) (by decide) (by omega) (by omega)
      obtain ⟨A, hA⟩ : ∃ x, pa (cen X) m n k = x := ⟨_, rfl⟩
      obtain ⟨B, hB⟩ : ∃ x, pa (cen Y) m n k = x := ⟨_, rfl⟩
      obtain ⟨l, hl⟩ : ∃ x, ln m n k = x := ⟨_, rfl⟩
      rw [hA] at c2 px mb HT cb
      rw [hB] at c3 py mb HT cb
      rw [hl] at c1 lp ll HT cb
      obtain ⟨Z, hZ⟩ : ∃ x, A * B = x := ⟨_, rfl⟩
      rw [hZ] at mb HT cb
      have CK : Hid (∀ W, _) := fun W => ceil_any Z (l : Int) (by omega) (by omega) (by omega) (by omega) W
      obtain ⟨D, hD⟩ : ∃ x, cl Z (l : Int) = x := ⟨_, rfl⟩
      rw [hD] at HT cb CK
      obtain ⟨px0, px1⟩ := px
      obtain ⟨py0, py1⟩ := py
      obtain ⟨z0, z1⟩ := mb
      obtain ⟨d0, d1⟩ := cb
      have m1 : IntKind.i64.wrap (A * B) = Z := by rw [hZ]; exact IntWalk.i64_in _ (by omega)
      have m4 : IntKind.i64.wrap (r + D) = r + D := IntWalk.i64_in _ (by omega)
      have ti : (k : Int) < (n : Int) := by omega
      clear hb hr hw hA hB hl hZ hD a0 a2 b0 b2
      go_wp2
      go_quiet ((go_at_call 108; exact quiet_same (CK.out _)))
      go_wp2
      go_roundw
      case rel => exact ⟨k + 1, _, _, rfl, by omega, by go_num, rfl, by rw [HT.out, HR.out]; omega, by first | exact HB.out.drwN _ | exact HB.out.drw | exact HB.out⟩
      case measure => simp [intOf]; omega
    · obtain rfl : k = n := by omega
      obtain ⟨_, a0, a1, a2, b0, b1, b2⟩ := HKS.out wr (HB7.out.tr hb)
      have hrU : r = U := by rw [hr, HUP.out]
      subst hrU
      have FK2 : Hid (∀ W, Calls Try.prog 50 #[.int .i64 r, .int .i64 (m : Int)] W fun e w' => e = .returned (.int .i64 VV) ∧ W = w') := FK.out
      clear hb hr hw
      go_wp2_with (go_at_call 50; refine (FK2.out _).mono ?_; rintro e w9 ⟨rfl, rfl⟩)
      go_ret2
      exact ⟨rfl, (HB2.out.tr HB7.out).tr HB.out⟩
end Go.Proofs.Ytgdhgeongdenpaa.Sk
