/- The contracts of the methods of unit.scan: what a byte of a text does to the state. -/
import Derived.Test.YtgclojonjglikaaDoorRows
import Derived.Test.YtgclojonjglikaaDoorWords
import Derived.WalkLawsBesides
import Derived.WalkSpells
import Derived.Outline
import Derived.IntWalk
import Derived.Deep.QuietTactic
import Derived.BigQuiet
import Derived.RegionTactic
namespace Go.Proofs.YtgclojonjglikaaDoor.Un
open Go.ChangeShapes Go.WideShapes Go.RowKit Wo
set_option linter.unusedVariables false
structure Sc where
  digits : Int
  whole : Int
  places : Int
  point : Bool
  leading : Bool
  some : Bool
  wrong : Bool
def Sc.cells (s : Sc) : Array Value := #[.int .i64 s.digits, .int .i64 s.whole, .int .i64 s.places, .bool s.point, .bool s.leading, .bool s.some, .bool s.wrong]
/-- the number with one more digit; what is too great stays too great -/
def cap (n : Int) : Int := if n < 1000000001 then n else 1000000001
def Sc.digit (s : Sc) (d : Int) : Sc :=
  if s.point then { s with places := s.places + 1, digits := cap (10 * s.digits + d) }
  else { s with leading := s.leading || (s.whole == 1 && s.digits == 0), whole := s.whole + 1, digits := cap (10 * s.digits + d) }
def Sc.take (s : Sc) (c : Nat) : Sc :=
  if 49 ≤ c ∧ c ≤ 57 then ({ s with some := true }).digit ((c : Int) - 48)
  else if c = 48 then s.digit 0
  else if c = 46 ∧ s.point = false then { s with point := true }
  else { s with wrong := true }
def Sc.ok (s : Sc) (n : Int) : Prop := 0 ≤ s.digits ∧ s.digits ≤ 1000000001 ∧ 0 ≤ s.whole ∧ s.whole ≤ n ∧ 0 ≤ s.places ∧ s.places ≤ n
def Ch1 (g : Nat) (w w' : World) : Prop := w.grownBy w' (some g)
theorem ch1_st {g : Nat} {a b : World} (h : Ch1 g a b) (i : Nat) (u : Value) : Ch1 g a (b.setCell ⟨g, i, none⟩ u) :=
  ⟨h.os, h.tape, h.output, by simpa [World.setCell] using h.size, fun k hk hn => (Below.heap_setCell b ⟨g, i, none⟩ u k (fun e => hn (by rw [e]))).trans (h.block k hk hn)⟩
theorem ch1_rf {g : Nat} {a : World} : Ch1 g a a := World.grownBy.refl _ _
theorem ch1_tr {g : Nat} {a b c : World} (h : Ch1 g a b) (k : Ch1 g b c) : Ch1 g a c :=
  ⟨k.os.trans h.os, k.tape.trans h.tape, k.output.trans h.output, Nat.le_trans h.size k.size, fun i hi hn => (k.block i (Nat.lt_of_lt_of_le hi h.size) hn).trans (h.block i hi hn)⟩
theorem bel_ch1 {g : Nat} {a b c : World} (h : Bel a b) (k : Ch1 g b c) (hg : a.heap.size ≤ g) : Bel a c :=
  ⟨k.os.trans h.bl.os, k.tape.trans h.bl.tape, k.output.trans h.bl.output, Nat.le_trans h.size k.size, fun i hi => (k.block i (Nat.lt_of_lt_of_le hi h.size) (fun e => by injection e with e; omega)).trans (h.bl.block i hi)⟩
theorem cap_lt {n : Int} (h : n < 1000000001) : cap n = n := if_pos h
theorem cap_ge {n : Int} (h : 1000000001 ≤ n) : cap n = 1000000001 := if_neg (by omega)
set_option maxHeartbeats 4000000 in
theorem digit_point (g : Nat) (d a b e : Int) (l s r : Bool) (w : World) (hb : Bk w g 53 (Sc.mk a b e true l s r).cells) (d0 : 0 ≤ d) (d1 : d ≤ 9) (a0 : 0 ≤ a) (a1 : a ≤ 1000000001) (b0 : 0 ≤ b) (b1 : b ≤ 4611686018427387904) (e0 : 0 ≤ e) (e1 : e ≤ 4611686018427387904) :
    Calls Tryd.prog 36 #[.pointer (some ⟨g, 0, none⟩), .int .i64 d] w fun x w' => x = .returned (.tuple #[]) ∧ Ch1 g w w' ∧ Bk w' g 53 (Sc.mk (cap (10 * a + d)) b (e + 1) true l s r).cells := by
  have k0 : w.cell? ⟨g, 0, none⟩ = some (.int .i64 a) := hb.cell 0
  have k1 : w.cell? ⟨g, 1, none⟩ = some (.int .i64 b) := hb.cell 1
  have k2 : w.cell? ⟨g, 2, none⟩ = some (.int .i64 e) := hb.cell 2
  have k3 : w.cell? ⟨g, 3, none⟩ = some (.bool true) := hb.cell 3
  have k4 : w.cell? ⟨g, 4, none⟩ = some (.bool l) := hb.cell 4
  have f0 : w.frozen? ⟨g, 0, none⟩ = false := hb.fr 0
  have f1 : w.frozen? ⟨g, 1, none⟩ = false := hb.fr 1
  have f2 : w.frozen? ⟨g, 2, none⟩ = false := hb.fr 2
  have f4 : w.frozen? ⟨g, 4, none⟩ = false := hb.fr 4
  have HB := Lib.hid hb
  clear hb
  rcases Int.lt_trichotomy (10 * a + d) 1000000001 with h | h | h
  · have HC := Lib.hid (show cap (10 * a + d) = _ from cap_lt h)
    go_enter Tryd.func36, Tryd.ntmps36
    go_wp2
    go_end0
    refine ⟨rfl, ch1_st (ch1_st (ch1_rf) _ _) _ _, ?_⟩
    rw [HC.out]
    have hz := ((HB.out.st 2 (.int .i64 (e + 1))).st 0 (.int .i64 (10 * a + d)))
    first | exact hz | (rw [h]; exact hz) | (rw [h] at hz; exact hz) | (rw [← h]; exact hz)
  · have HC := Lib.hid (show cap (10 * a + d) = _ from cap_ge (by omega))
    go_enter Tryd.func36, Tryd.ntmps36
    go_wp2
    go_end0
    refine ⟨rfl, ch1_st (ch1_st (ch1_rf) _ _) _ _, ?_⟩
    rw [HC.out]
    have hz := ((HB.out.st 2 (.int .i64 (e + 1))).st 0 (.int .i64 (1000000001)))
    first | exact hz | (rw [h]; exact hz) | (rw [h] at hz; exact hz) | (rw [← h]; exact hz)
  · have HC := Lib.hid (show cap (10 * a + d) = _ from cap_ge (by omega))
    go_enter Tryd.func36, Tryd.ntmps36
    go_wp2
    go_end0
    refine ⟨rfl, ch1_st (ch1_st (ch1_rf) _ _) _ _, ?_⟩
    rw [HC.out]
    have hz := ((HB.out.st 2 (.int .i64 (e + 1))).st 0 (.int .i64 (1000000001)))
    first | exact hz | (rw [h]; exact hz) | (rw [h] at hz; exact hz) | (rw [← h]; exact hz)
set_option maxHeartbeats 4000000 in
theorem digit_a (g : Nat) (d a b e : Int) (l s r : Bool) (w : World) (hb : Bk w g 53 (Sc.mk a b e false true s r).cells) (d0 : 0 ≤ d) (d1 : d ≤ 9) (a0 : 0 ≤ a) (a1 : a ≤ 1000000001) (b0 : 0 ≤ b) (b1 : b ≤ 4611686018427387904) (e0 : 0 ≤ e) (e1 : e ≤ 4611686018427387904) :
    Calls Tryd.prog 36 #[.pointer (some ⟨g, 0, none⟩), .int .i64 d] w fun x w' => x = .returned (.tuple #[]) ∧ Ch1 g w w' ∧ Bk w' g 53 (Sc.mk (cap (10 * a + d)) (b + 1) e false true s r).cells := by
  have k0 : w.cell? ⟨g, 0, none⟩ = some (.int .i64 a) := hb.cell 0
  have k1 : w.cell? ⟨g, 1, none⟩ = some (.int .i64 b) := hb.cell 1
  have k2 : w.cell? ⟨g, 2, none⟩ = some (.int .i64 e) := hb.cell 2
  have k3 : w.cell? ⟨g, 3, none⟩ = some (.bool false) := hb.cell 3
  have k4 : w.cell? ⟨g, 4, none⟩ = some (.bool true) := hb.cell 4
  have f0 : w.frozen? ⟨g, 0, none⟩ = false := hb.fr 0
  have f1 : w.frozen? ⟨g, 1, none⟩ = false := hb.fr 1
  have f2 : w.frozen? ⟨g, 2, none⟩ = false := hb.fr 2
  have f4 : w.frozen? ⟨g, 4, none⟩ = false := hb.fr 4
  have HB := Lib.hid hb
  clear hb
  rcases Int.lt_trichotomy (10 * a + d) 1000000001 with h | h | h
  · have HC := Lib.hid (show cap (10 * a + d) = _ from cap_lt h)
    go_enter Tryd.func36, Tryd.ntmps36
    go_wp2
    go_end0
    refine ⟨rfl, ch1_st (ch1_st (ch1_st (ch1_rf) _ _) _ _) _ _, ?_⟩
    rw [HC.out]
    have hz := (((HB.out.st 4 (.bool true)).st 1 (.int .i64 (b + 1))).st 0 (.int .i64 (10 * a + d)))
    first | exact hz | (rw [h]; exact hz) | (rw [h] at hz; exact hz) | (rw [← h]; exact hz)
  · have HC := Lib.hid (show cap (10 * a + d) = _ from cap_ge (by omega))
    go_enter Tryd.func36, Tryd.ntmps36
    go_wp2
    go_end0
    refine ⟨rfl, ch1_st (ch1_st (ch1_st (ch1_rf) _ _) _ _) _ _, ?_⟩
    rw [HC.out]
    have hz := (((HB.out.st 4 (.bool true)).st 1 (.int .i64 (b + 1))).st 0 (.int .i64 (1000000001)))
    first | exact hz | (rw [h]; exact hz) | (rw [h] at hz; exact hz) | (rw [← h]; exact hz)
  · have HC := Lib.hid (show cap (10 * a + d) = _ from cap_ge (by omega))
    go_enter Tryd.func36, Tryd.ntmps36
    go_wp2
    go_end0
    refine ⟨rfl, ch1_st (ch1_st (ch1_st (ch1_rf) _ _) _ _) _ _, ?_⟩
    rw [HC.out]
    have hz := (((HB.out.st 4 (.bool true)).st 1 (.int .i64 (b + 1))).st 0 (.int .i64 (1000000001)))
    first | exact hz | (rw [h]; exact hz) | (rw [h] at hz; exact hz) | (rw [← h]; exact hz)
set_option maxHeartbeats 4000000 in
theorem digit_b (g : Nat) (d a b e : Int) (l s r : Bool) (w : World) (hb : Bk w g 53 (Sc.mk a b e false false s r).cells) (d0 : 0 ≤ d) (d1 : d ≤ 9) (a0 : 0 ≤ a) (a1 : a ≤ 1000000001) (b0 : 0 ≤ b) (b1 : b ≤ 4611686018427387904) (e0 : 0 ≤ e) (e1 : e ≤ 4611686018427387904) (hx : (b == 1) = false) :
    Calls Tryd.prog 36 #[.pointer (some ⟨g, 0, none⟩), .int .i64 d] w fun x w' => x = .returned (.tuple #[]) ∧ Ch1 g w w' ∧ Bk w' g 53 (Sc.mk (cap (10 * a + d)) (b + 1) e false false s r).cells := by
  have k0 : w.cell? ⟨g, 0, none⟩ = some (.int .i64 a) := hb.cell 0
  have k1 : w.cell? ⟨g, 1, none⟩ = some (.int .i64 b) := hb.cell 1
  have k2 : w.cell? ⟨g, 2, none⟩ = some (.int .i64 e) := hb.cell 2
  have k3 : w.cell? ⟨g, 3, none⟩ = some (.bool false) := hb.cell 3
  have k4 : w.cell? ⟨g, 4, none⟩ = some (.bool false) := hb.cell 4
  have f0 : w.frozen? ⟨g, 0, none⟩ = false := hb.fr 0
  have f1 : w.frozen? ⟨g, 1, none⟩ = false := hb.fr 1
  have f2 : w.frozen? ⟨g, 2, none⟩ = false := hb.fr 2
  have f4 : w.frozen? ⟨g, 4, none⟩ = false := hb.fr 4
  have HB := Lib.hid hb
  clear hb
  rcases Int.lt_trichotomy (10 * a + d) 1000000001 with h | h | h
  · have HC := Lib.hid (show cap (10 * a + d) = _ from cap_lt h)
    go_enter Tryd.func36, Tryd.ntmps36
    go_wp2
    go_end0
    refine ⟨rfl, ch1_st (ch1_st (ch1_st (ch1_rf) _ _) _ _) _ _, ?_⟩
    rw [HC.out]
    have hz := (((HB.out.st 4 (.bool false)).st 1 (.int .i64 (b + 1))).st 0 (.int .i64 (10 * a + d)))
    first | exact hz | (rw [h]; exact hz) | (rw [h] at hz; exact hz) | (rw [← h]; exact hz)
  · have HC := Lib.hid (show cap (10 * a + d) = _ from cap_ge (by omega))
    go_enter Tryd.func36, Tryd.ntmps36
    go_wp2
    go_end0
    refine ⟨rfl, ch1_st (ch1_st (ch1_st (ch1_rf) _ _) _ _) _ _, ?_⟩
    rw [HC.out]
    have hz := (((HB.out.st 4 (.bool false)).st 1 (.int .i64 (b + 1))).st 0 (.int .i64 (1000000001)))
    first | exact hz | (rw [h]; exact hz) | (rw [h] at hz; exact hz) | (rw [← h]; exact hz)
  · have HC := Lib.hid (show cap (10 * a + d) = _ from cap_ge (by omega))
    go_enter Tryd.func36, Tryd.ntmps36
    go_wp2
    go_end0
    refine ⟨rfl, ch1_st (ch1_st (ch1_st (ch1_rf) _ _) _ _) _ _, ?_⟩
    rw [HC.out]
    have hz := (((HB.out.st 4 (.bool false)).st 1 (.int .i64 (b + 1))).st 0 (.int .i64 (1000000001)))
    first | exact hz | (rw [h]; exact hz) | (rw [h] at hz; exact hz) | (rw [← h]; exact hz)
set_option maxHeartbeats 4000000 in
theorem digit_c (g : Nat) (d a b e : Int) (l s r : Bool) (w : World) (hb : Bk w g 53 (Sc.mk a b e false false s r).cells) (d0 : 0 ≤ d) (d1 : d ≤ 9) (a0 : 0 ≤ a) (a1 : a ≤ 1000000001) (b0 : 0 ≤ b) (b1 : b ≤ 4611686018427387904) (e0 : 0 ≤ e) (e1 : e ≤ 4611686018427387904) (hx : (b == 1) = true) (hy : (a == 0) = false) :
    Calls Tryd.prog 36 #[.pointer (some ⟨g, 0, none⟩), .int .i64 d] w fun x w' => x = .returned (.tuple #[]) ∧ Ch1 g w w' ∧ Bk w' g 53 (Sc.mk (cap (10 * a + d)) (b + 1) e false false s r).cells := by
  have k0 : w.cell? ⟨g, 0, none⟩ = some (.int .i64 a) := hb.cell 0
  have k1 : w.cell? ⟨g, 1, none⟩ = some (.int .i64 b) := hb.cell 1
  have k2 : w.cell? ⟨g, 2, none⟩ = some (.int .i64 e) := hb.cell 2
  have k3 : w.cell? ⟨g, 3, none⟩ = some (.bool false) := hb.cell 3
  have k4 : w.cell? ⟨g, 4, none⟩ = some (.bool false) := hb.cell 4
  have f0 : w.frozen? ⟨g, 0, none⟩ = false := hb.fr 0
  have f1 : w.frozen? ⟨g, 1, none⟩ = false := hb.fr 1
  have f2 : w.frozen? ⟨g, 2, none⟩ = false := hb.fr 2
  have f4 : w.frozen? ⟨g, 4, none⟩ = false := hb.fr 4
  have HB := Lib.hid hb
  clear hb
  rcases Int.lt_trichotomy (10 * a + d) 1000000001 with h | h | h
  · have HC := Lib.hid (show cap (10 * a + d) = _ from cap_lt h)
    go_enter Tryd.func36, Tryd.ntmps36
    go_wp2
    go_end0
    refine ⟨rfl, ch1_st (ch1_st (ch1_st (ch1_rf) _ _) _ _) _ _, ?_⟩
    rw [HC.out]
    have hz := (((HB.out.st 4 (.bool false)).st 1 (.int .i64 (b + 1))).st 0 (.int .i64 (10 * a + d)))
    first | exact hz | (rw [h]; exact hz) | (rw [h] at hz; exact hz) | (rw [← h]; exact hz)
  · have HC := Lib.hid (show cap (10 * a + d) = _ from cap_ge (by omega))
    go_enter Tryd.func36, Tryd.ntmps36
    go_wp2
    go_end0
    refine ⟨rfl, ch1_st (ch1_st (ch1_st (ch1_rf) _ _) _ _) _ _, ?_⟩
    rw [HC.out]
    have hz := (((HB.out.st 4 (.bool false)).st 1 (.int .i64 (b + 1))).st 0 (.int .i64 (1000000001)))
    first | exact hz | (rw [h]; exact hz) | (rw [h] at hz; exact hz) | (rw [← h]; exact hz)
  · have HC := Lib.hid (show cap (10 * a + d) = _ from cap_ge (by omega))
    go_enter Tryd.func36, Tryd.ntmps36
    go_wp2
    go_end0
    refine ⟨rfl, ch1_st (ch1_st (ch1_st (ch1_rf) _ _) _ _) _ _, ?_⟩
    rw [HC.out]
    have hz := (((HB.out.st 4 (.bool false)).st 1 (.int .i64 (b + 1))).st 0 (.int .i64 (1000000001)))
    first | exact hz | (rw [h]; exact hz) | (rw [h] at hz; exact hz) | (rw [← h]; exact hz)
set_option maxHeartbeats 4000000 in
theorem digit_d (g : Nat) (d a b e : Int) (l s r : Bool) (w : World) (hb : Bk w g 53 (Sc.mk a b e false false s r).cells) (d0 : 0 ≤ d) (d1 : d ≤ 9) (a0 : 0 ≤ a) (a1 : a ≤ 1000000001) (b0 : 0 ≤ b) (b1 : b ≤ 4611686018427387904) (e0 : 0 ≤ e) (e1 : e ≤ 4611686018427387904) (hx : (b == 1) = true) (hy : (a == 0) = true) :
    Calls Tryd.prog 36 #[.pointer (some ⟨g, 0, none⟩), .int .i64 d] w fun x w' => x = .returned (.tuple #[]) ∧ Ch1 g w w' ∧ Bk w' g 53 (Sc.mk (cap (10 * a + d)) (b + 1) e false true s r).cells := by
  have k0 : w.cell? ⟨g, 0, none⟩ = some (.int .i64 a) := hb.cell 0
  have k1 : w.cell? ⟨g, 1, none⟩ = some (.int .i64 b) := hb.cell 1
  have k2 : w.cell? ⟨g, 2, none⟩ = some (.int .i64 e) := hb.cell 2
  have k3 : w.cell? ⟨g, 3, none⟩ = some (.bool false) := hb.cell 3
  have k4 : w.cell? ⟨g, 4, none⟩ = some (.bool false) := hb.cell 4
  have f0 : w.frozen? ⟨g, 0, none⟩ = false := hb.fr 0
  have f1 : w.frozen? ⟨g, 1, none⟩ = false := hb.fr 1
  have f2 : w.frozen? ⟨g, 2, none⟩ = false := hb.fr 2
  have f4 : w.frozen? ⟨g, 4, none⟩ = false := hb.fr 4
  have HB := Lib.hid hb
  clear hb
  rcases Int.lt_trichotomy (10 * a + d) 1000000001 with h | h | h
  · have HC := Lib.hid (show cap (10 * a + d) = _ from cap_lt h)
    go_enter Tryd.func36, Tryd.ntmps36
    go_wp2
    go_end0
    refine ⟨rfl, ch1_st (ch1_st (ch1_st (ch1_rf) _ _) _ _) _ _, ?_⟩
    rw [HC.out]
    have hz := (((HB.out.st 4 (.bool true)).st 1 (.int .i64 (b + 1))).st 0 (.int .i64 (10 * a + d)))
    first | exact hz | (rw [h]; exact hz) | (rw [h] at hz; exact hz) | (rw [← h]; exact hz)
  · have HC := Lib.hid (show cap (10 * a + d) = _ from cap_ge (by omega))
    go_enter Tryd.func36, Tryd.ntmps36
    go_wp2
    go_end0
    refine ⟨rfl, ch1_st (ch1_st (ch1_st (ch1_rf) _ _) _ _) _ _, ?_⟩
    rw [HC.out]
    have hz := (((HB.out.st 4 (.bool true)).st 1 (.int .i64 (b + 1))).st 0 (.int .i64 (1000000001)))
    first | exact hz | (rw [h]; exact hz) | (rw [h] at hz; exact hz) | (rw [← h]; exact hz)
  · have HC := Lib.hid (show cap (10 * a + d) = _ from cap_ge (by omega))
    go_enter Tryd.func36, Tryd.ntmps36
    go_wp2
    go_end0
    refine ⟨rfl, ch1_st (ch1_st (ch1_st (ch1_rf) _ _) _ _) _ _, ?_⟩
    rw [HC.out]
    have hz := (((HB.out.st 4 (.bool true)).st 1 (.int .i64 (b + 1))).st 0 (.int .i64 (1000000001)))
    first | exact hz | (rw [h]; exact hz) | (rw [h] at hz; exact hz) | (rw [← h]; exact hz)
theorem digit_any (g : Nat) (d : Int) (S : Sc) (w : World) (hb : Bk w g 53 S.cells) (d0 : 0 ≤ d) (d1 : d ≤ 9) (n : Int) (hn : n ≤ 4611686018427387904) (hS : S.ok n) :
    Calls Tryd.prog 36 #[.pointer (some ⟨g, 0, none⟩), .int .i64 d] w fun x w' => x = .returned (.tuple #[]) ∧ Ch1 g w w' ∧ Bk w' g 53 (S.digit d).cells := by
  obtain ⟨a, b, e, p, l, s, r⟩ := S
  obtain ⟨a0, a1, b0, b1, e0, e1⟩ := hS
  simp only at a0 a1 b0 b1 e0 e1
  cases p
  · cases l
    · rcases hx : (b == 1)
      · have := digit_b g d a b e false s r w hb d0 d1 a0 a1 b0 (by omega) e0 (by omega) hx
        simpa [Sc.digit, hx] using this
      · rcases hy : (a == 0)
        · have := digit_c g d a b e false s r w hb d0 d1 a0 a1 b0 (by omega) e0 (by omega) hx hy
          simpa [Sc.digit, hx, hy] using this
        · have := digit_d g d a b e false s r w hb d0 d1 a0 a1 b0 (by omega) e0 (by omega) hx hy
          simpa [Sc.digit, hx, hy] using this
    · have := digit_a g d a b e true s r w hb d0 d1 a0 a1 b0 (by omega) e0 (by omega)
      simpa [Sc.digit] using this
  · have := digit_point g d a b e l s r w hb d0 d1 a0 a1 b0 (by omega) e0 (by omega)
    simpa [Sc.digit] using this
theorem cap_bound {n : Int} (h : 0 ≤ n) : 0 ≤ cap n ∧ cap n ≤ 1000000001 := by unfold cap; split <;> omega
theorem digit_ok {S : Sc} {n d : Int} (h : S.ok n) (d0 : 0 ≤ d) : (S.digit d).ok (n + 1) := by
  obtain ⟨a0, a1, b0, b1, e0, e1⟩ := h
  have := cap_bound (n := 10 * S.digits + d) (by omega)
  unfold Sc.digit
  split <;> exact ⟨this.1, this.2, by simp only; omega, by simp only; omega, by simp only; omega, by simp only; omega⟩
theorem take_ok {S : Sc} {n : Int} {c : Nat} (h : S.ok n) : (S.take c).ok (n + 1) := by
  have hw : S.ok (n + 1) := ⟨h.1, h.2.1, h.2.2.1, by have := h.2.2.2.1; omega, h.2.2.2.2.1, by have := h.2.2.2.2.2; omega⟩
  unfold Sc.take
  split
  · exact digit_ok (S := { S with some := true }) h (by omega)
  · split
    · exact digit_ok h (by omega)
    · split
      · exact hw
      · exact hw
end Go.Proofs.YtgclojonjglikaaDoor.Un
