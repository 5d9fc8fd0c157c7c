/- word.Check of valid schemes. -/
import Derived.Test.YtgdhgeongdenpaaWdC
import Derived.Test.YtgdhgeongdenpaaWdM
import Derived.Test.YtgdhgeongdenpaaPie4
namespace Go.Proofs.Ytgdhgeongdenpaa.Wd
open Go.ChangeShapes Go.WideShapes Go.RowKit Wo Sr Wi Ms
set_option linter.unusedVariables false
/-- the value of a scheme -/
def Sx (k b g : Int) (m n : Nat) (A : Option Addr) (nc cc : Nat) : Value := .agg #[.int .i64 k, .int .i64 b, .int .i64 g, .int .i64 (m : Int), .int .i64 (n : Int), .slice A nc cc]
/-- a valid scheme -/
structure Sv (k b g : Int) (m n : Nat) (C : List Int) : Prop where
  mv : Mv k b g
  m2 : 2 ≤ m
  m32 : m ≤ 32
  n1 : 1 ≤ n
  n8 : n ≤ 8
  nm : n ≤ m
  cv : Cv C
set_option maxHeartbeats 4000000 in
set_option maxRecDepth 100000 in
theorem wcheck_ok (k b g : Int) (m n : Nat) (A : Option Addr) (nc cc : Nat) (C : List Int) (hs : Sv k b g m n C) (w : World) (hz : Zi w A nc C) :
    Calls Try.prog 44 #[Sx k b g m n A nc cc] w fun e w' => e = .returned (.int .i64 0) ∧ Bel w w' := by
  obtain ⟨hmv, m2, m32, n1, n8, nm, hcv⟩ := hs
  have CK : Hid (∀ W, Calls Try.prog 84 #[.agg #[.int .i64 k, .int .i64 b, .int .i64 g]] W fun e w' => e = .returned (.int .i64 0) ∧ Bel W w') := fun W => check_ok k b g hmv W
  have HCV := Lib.hid hcv
  have HZ := Lib.hid hz
  have HL := Lib.hid hz.1
  have c15 : (nc : Int) ≤ 15 := by have := hcv.1; have := hz.1; omega
  have LN : Hid (∀ W, Calls Try.prog 85 #[.int .i64 (m : Int)] W fun e w' => e = .returned (.bool true) ∧ W = w') := fun W => length_ok (m : Int) (by omega) (by omega) W
  have PC : Hid (∀ W, Calls Try.prog 86 #[.int .i64 (m : Int), .int .i64 (n : Int)] W fun e w' => e = .returned (.int .i64 0) ∧ Bel W w') := fun W => Pc.pieces_ok m n n1 n8 nm W
  have HB0 : Hid (Bk (w.alloc (.cells #[.int .i64 k, .int .i64 b, .int .i64 g, .int .i64 (m : Int), .int .i64 (n : Int), .slice A nc cc] 28)) w.heap.size 28 #[.int .i64 k, .int .i64 b, .int .i64 g, .int .i64 (m : Int), .int .i64 (n : Int), .slice A nc cc]) := Bk.nw _ _ _
  have HB1 : Hid (Bel w (w.alloc (.cells #[.int .i64 k, .int .i64 b, .int .i64 g, .int .i64 (m : Int), .int .i64 (n : Int), .slice A nc cc] 28))) := Bel.rf.al _
  clear hmv hcv hz
  unfold Sx
  go_enter Try.func44, Try.ntmps44
  go_wp2_with (first
    | (go_at_call 84; refine (CK.out _).mono ?_; rintro e w1 ⟨rfl, hb1⟩; have HK1 := Lib.hid ((HB0.out.bel (by repeat (first | exact Bel.rf | (with_reducible refine Bel.drwN ?_ _) | (with_reducible refine Bel.drw ?_) | (with_reducible refine Bel.al ?_ _)))).bel hb1); have HW1 : Hid (Bel w w1) := HB1.out.tr (Bel.tr (by repeat (first | exact Bel.rf | (with_reducible refine Bel.drwN ?_ _) | (with_reducible refine Bel.drw ?_) | (with_reducible refine Bel.al ?_ _))) hb1); have q0 := HK1.out.cell 0; have q3 := HK1.out.cell 3; have q4 := HK1.out.cell 4; have q5 := HK1.out.cell 5; simp only [List.getElem?_toArray, List.getElem?_cons_zero, List.getElem?_cons_succ] at q0 q3 q4 q5; clear hb1)
    | (go_at_call 85; refine (LN.out _).mono ?_; rintro e w2 ⟨rfl, rfl⟩)
    | (go_at_call 86; refine (PC.out _).mono ?_; rintro e w3 ⟨rfl, hb3⟩; have HK3 := Lib.hid ((HK1.out.bel (by repeat (first | exact Bel.rf | (with_reducible refine Bel.drwN ?_ _) | (with_reducible refine Bel.drw ?_) | (with_reducible refine Bel.al ?_ _)))).bel hb3); have HW3 : Hid (Bel w w3) := HW1.out.tr (Bel.tr (by repeat (first | exact Bel.rf | (with_reducible refine Bel.drwN ?_ _) | (with_reducible refine Bel.drw ?_) | (with_reducible refine Bel.al ?_ _))) hb3); have p0 := HK3.out.cell 0; have p3 := HK3.out.cell 3; have p4 := HK3.out.cell 4; have p5 := HK3.out.cell 5; simp only [List.getElem?_toArray, List.getElem?_cons_zero, List.getElem?_cons_succ] at p0 p3 p4 p5; clear hb3))
  go_loopw [30] (fun s30 wr => ∃ (i : Nat) (V : World), V = wr ∧ i ≤ nc ∧ s30 = .int .i64 (i : Int) ∧ Bel w3 wr) (fun s30 _ => nc - (intOf s30).toNat)
  case atStart => exact ⟨0, _, rfl, by omega, rfl, (by repeat (first | exact Bel.rf | (with_reducible refine Bel.drwN ?_ _) | (with_reducible refine Bel.drw ?_) | (with_reducible refine Bel.al ?_ _)))⟩
  case round =>
    obtain ⟨i, wr, hwr, hi, rfl, hb⟩ := hrel
    subst hwr
    have HB := Lib.hid hb
    have r5 := hb.kp p5
    clear p0 p3 p4 p5 q0 q3 q4 q5 hb
    rcases Nat.lt_or_ge i nc with hlt | hge
    · obtain ⟨ad, e, _, hc⟩ := (HZ.out.bel (HW3.out.tr HB.out)).2 (by omega)
      subst e
      have c1 := hc i hlt
      obtain ⟨x, hx⟩ : ∃ x, C.getD i 0 = x := ⟨_, rfl⟩
      have hxb := HCV.out.2.1 i (by rw [HL.out]; exact hlt)
      rw [hx] at c1 hxb
      obtain ⟨x1, x2⟩ := hxb
      have ii : (i : Int) < (nc : Int) := by omega
      have i0 : (0 : Int) ≤ (i : Int) := by omega
      have nx1 : ¬ x < -2000 := by omega
      have nx2 : ¬ 2000 < x := by omega
      rcases Nat.eq_zero_or_pos i with h0 | h0
      · subst h0
        have c1' : wr.cell? ad = some (.int .i64 x) := by simpa [Addr.add] using c1
        clear hc c1 hx
        go_wp2
        go_roundw
        case rel => exact ⟨0 + 1, _, rfl, by omega, by go_num, (by repeat (first | exact HB.out | (with_reducible refine Bel.drwN ?_ _) | (with_reducible refine Bel.drw ?_) | (with_reducible refine Bel.al ?_ _)))⟩
        case measure => simp [intOf]; omega
      · obtain ⟨j, hj⟩ : ∃ j, i = j + 1 := ⟨i - 1, by omega⟩
        have c2 := hc j (by omega)
        obtain ⟨y, hy⟩ : ∃ x, C.getD j 0 = x := ⟨_, rfl⟩
        have hyx : y < x := by
          have := HCV.out.2.2 j (by rw [HL.out]; omega)
          rw [hy, ← hj, hx] at this; exact this
        rw [hy] at c2
        have jn : (j : Int) < (nc : Int) := by omega
        have j0 : (0 : Int) ≤ (j : Int) := by omega
        have ji : (i : Int) - 1 = (j : Int) := by omega
        have jw : IntKind.i64.wrap (j : Int) = (j : Int) := IntWalk.i64_in _ (by omega)
        have jw2 : IntKind.i64.wrap ((i : Int) - 1) = (j : Int) := by rw [ji]; exact jw
        have ip : (i : Int) > 0 := by omega
        have ip' : decide ((i : Int) > 0) = true := decide_eq_true ip
        have tu : ¬ x ≤ y := by omega
        have tu' : decide (x ≤ y) = false := decide_eq_false tu
        clear hc hx hy hj
        go_wp2
        go_roundw
        case rel => exact ⟨i + 1, _, rfl, by omega, by go_num, (by repeat (first | exact HB.out | (with_reducible refine Bel.drwN ?_ _) | (with_reducible refine Bel.drw ?_) | (with_reducible refine Bel.al ?_ _)))⟩
        case measure => simp [intOf]; omega
    · obtain rfl : i = nc := by omega
      go_wp2
      go_ret
      exact ⟨rfl, (by repeat (first | exact HW3.out.tr HB.out | (with_reducible refine Bel.drwN ?_ _) | (with_reducible refine Bel.drw ?_) | (with_reducible refine Bel.al ?_ _)))⟩
end Go.Proofs.Ytgdhgeongdenpaa.Wd
