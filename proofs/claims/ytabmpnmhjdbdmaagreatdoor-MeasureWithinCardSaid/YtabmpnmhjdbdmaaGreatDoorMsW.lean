/- measure.Within of valid limits. -/
import Derived.Test.YtabmpnmhjdbdmaaGreatDoorRatioLessP
import Derived.Test.YtabmpnmhjdbdmaaGreatDoorMsC
namespace Go.Proofs.YtabmpnmhjdbdmaaGreatDoor.Ms
open Go.ChangeShapes Go.WideShapes Go.RowKit Wo Sr Wi Ra
set_option linter.unusedVariables false
theorem lessb {p q u v : Int} (hp : RV p q) (hr : RV u v) (w : World) :
    Calls Tryz.prog 19 #[.agg #[.int .i64 p, .int .i64 q], .agg #[.int .i64 u, .int .i64 v]] w fun e w' => e = .returned (.bool (decide (p * v < u * q))) ∧ Bel w w' :=
  less_as p q u v _ _ rfl (by
    rcases rcmp_three hp hr with ⟨e1, e2⟩ | ⟨e1, e2⟩ | ⟨e1, e2⟩ <;> rw [e1]
    · simp [e2]
    · simp; omega
    · simp; omega) w
theorem cmpI_nle {a b : Int} (h : a ≤ b) : cmpI a b ≤ 0 := by
  rcases Int.lt_or_eq_of_le h with h | h
  · rw [cmpI_lt h]; decide
  · rw [cmpI_eq h]; decide
set_option maxHeartbeats 4000000 in
set_option maxRecDepth 100000 in
theorem within_of (k b g : Int) (A A' : Option Addr) (c c' n m : Nat) (p q u v : Int) (hp : RV p q) (hl : RV u v) (f : Bool) (r1 r2 : Int) (hf : decide (u * q < p * v) = f) (hr : f = true → r1 = 0 ∧ r2 = 1) (hr' : f = false → r1 = p ∧ r2 = q) (w : World)
    (hD : ∀ W, Bel w W → Calls Tryz.prog 8 #[.agg #[.int .i64 k, .int .i64 b, .int .i64 g], .slice A n c, .slice A' m c'] W fun e w' => e = .returned (.tuple #[.agg #[.int .i64 p, .int .i64 q], .int .i64 0]) ∧ Bel W w') :
    Calls Tryz.prog 9 #[.agg #[.int .i64 k, .int .i64 b, .int .i64 g], .slice A n c, .slice A' m c', .agg #[.int .i64 u, .int .i64 v]] w fun e w' => e = .returned (.tuple #[.agg #[.int .i64 r1, .int .i64 r2], .bool (!f)]) ∧ Bel w w' := by
  have D := Lib.hid hD
  have VL : Hid (∀ W, Calls Tryz.prog 18 #[.agg #[.int .i64 u, .int .i64 v]] W fun e w' => e = .returned (.bool true) ∧ Bel W w') := fun W => by
    have := valid_any u v W
    rw [rv_yes hl] at this
    exact this
  have LS : Hid (∀ W, Calls Tryz.prog 19 #[.agg #[.int .i64 u, .int .i64 v], .agg #[.int .i64 p, .int .i64 q]] W fun e w' => e = .returned (.bool f) ∧ Bel W w') := fun W => by
    have := lessb hl hp W
    rw [hf] at this
    exact this
  have HR := Lib.hid (And.intro hr hr')
  clear hD hp hl hf hr hr'
  go_enter Tryz.func9, Tryz.ntmps9
  go_wp2_with fail
  go_at_call 8
  refine (D.out _ (((Bel.rf.al _).al _).al _)).mono ?_
  rintro e w1 ⟨rfl, hb⟩
  have HB1 : Hid (Bel w w1) := (((Bel.rf.al _).al _).al _).tr hb
  have kL : Bk w1 (w.heap.size + 1) 31 #[.int .i64 u, .int .i64 v] := ((Bk.nq _ _ _ (by simp)).al _).bel hb
  have kR : Bk w1 (w.heap.size + 2) 31 #[.int .i64 0, .int .i64 0] := (Bk.nq _ _ _ (by simp)).bel hb
  have HL := Lib.hid (kL.al (.cells #[.int .i64 p, .int .i64 q] 31))
  have HRR := Lib.hid (kR.al (.cells #[.int .i64 p, .int .i64 q] 31))
  have HD : Hid (Bk (w1.alloc (.cells #[.int .i64 p, .int .i64 q] 31)) w1.heap.size 31 #[.int .i64 p, .int .i64 q]) := Bk.nw _ _ _
  have l0 : w1.cell? ⟨w.heap.size + 1, 0, none⟩ = some (.int .i64 u) := kL.cell 0
  have l1 : w1.cell? ⟨w.heap.size + 1, 1, none⟩ = some (.int .i64 v) := kL.cell 1
  have ll := kL.lt
  clear hb kL kR
  go_wp2_with fail
  go_at_call 18
  refine (VL.out _).mono ?_
  rintro e w2 ⟨rfl, hb⟩
  have HB2 : Hid (Bel w w2) := (HB1.out.al _).tr hb
  have kL := HL.out.bel hb
  have kD := HD.out.bel hb
  have kR := Lib.hid (HRR.out.bel hb)
  have HD2 := Lib.hid kD
  have l0 : w2.cell? ⟨w.heap.size + 1, 0, none⟩ = some (.int .i64 u) := kL.cell 0
  have l1 : w2.cell? ⟨w.heap.size + 1, 1, none⟩ = some (.int .i64 v) := kL.cell 1
  have d0 : w2.cell? ⟨w1.heap.size, 0, none⟩ = some (.int .i64 p) := kD.cell 0
  have d1 : w2.cell? ⟨w1.heap.size, 1, none⟩ = some (.int .i64 q) := kD.cell 1
  clear hb kL kD
  go_wp2_with fail
  go_at_call 19
  refine (LS.out _).mono ?_
  rintro e w3 ⟨rfl, hb⟩
  have HB3 : Hid (Bel w w3) := HB2.out.tr hb
  have kD := HD2.out.bel hb
  have kR3 := kR.out.bel hb
  have d0 : w3.cell? ⟨w1.heap.size, 0, none⟩ = some (.int .i64 p) := kD.cell 0
  have d1 : w3.cell? ⟨w1.heap.size, 1, none⟩ = some (.int .i64 q) := kD.cell 1
  have q0 : w3.cell? ⟨w.heap.size + 2, 0, none⟩ = some (.int .i64 0) := kR3.cell 0
  have q1 : w3.cell? ⟨w.heap.size + 2, 1, none⟩ = some (.int .i64 0) := kR3.cell 1
  have j0 := kR3.fr 0
  have j1 := kR3.fr 1
  clear hb kD kR3 kR
  rcases f with _ | _
  · obtain ⟨rfl, rfl⟩ := HR.out.2 rfl
    go_wp2
    refine bodyPost_ret (v := .tuple #[.agg #[.int .i64 r1, .int .i64 r2], .bool true]) (by simp [results, Tryz.results9, go_sem, q0, q1]) rfl ⟨rfl, ?_⟩
    exact (HB3.out.st (by show w.heap.size ≤ w.heap.size + 2; omega) _).st (by show w.heap.size ≤ w.heap.size + 2; omega) _
  · obtain ⟨rfl, rfl⟩ := HR.out.1 rfl
    go_wp2
    refine bodyPost_ret (v := .tuple #[.agg #[.int .i64 0, .int .i64 1], .bool false]) (by simp [results, Tryz.results9, go_sem, q0, q1]) rfl ⟨rfl, ?_⟩
    exact (HB3.out.st (by show w.heap.size ≤ w.heap.size + 2; omega) _).st (by show w.heap.size ≤ w.heap.size + 2; omega) _
end Go.Proofs.YtabmpnmhjdbdmaaGreatDoor.Ms
