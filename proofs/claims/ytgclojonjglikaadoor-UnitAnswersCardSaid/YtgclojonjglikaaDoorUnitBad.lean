/- The contracts of unit.Convert and of the reference's Convert for refused decimals and units. -/
import Derived.Test.YtgclojonjglikaaDoorUnitRef
namespace Go.Proofs.YtgclojonjglikaaDoor.Un
open Go.ChangeShapes Go.WideShapes Go.RowKit Wo
set_option linter.unusedVariables false
def DOk (x p : Int) : Prop := -1000000000 ≤ x ∧ x ≤ 1000000000 ∧ 0 ≤ p ∧ p ≤ 6
theorem dvalid_any (x p : Int) (w : World) :
    Calls Tryd.prog 25 #[.agg #[.int .i64 x, .int .i64 p]] w fun e w' => ((e = .returned (.bool true) ∧ DOk x p) ∨ (e = .returned (.bool false) ∧ ¬ DOk x p)) ∧ Bel w w' := by
  rcases (show (-1000000000 ≤ x ∧ x ≤ 1000000000 ∧ 0 ≤ p ∧ p ≤ 6) ∨ x < -1000000000 ∨ (-1000000000 ≤ x ∧ 1000000000 < x) ∨ (-1000000000 ≤ x ∧ x ≤ 1000000000 ∧ p < 0) ∨ (-1000000000 ≤ x ∧ x ≤ 1000000000 ∧ 0 ≤ p ∧ 6 < p) by omega) with ⟨g1, g2, g3, g4⟩ | g1 | ⟨g1, g2⟩ | ⟨g1, g2, g3⟩ | ⟨g1, g2, g3, g4⟩
  · have hyes : DOk x p := ⟨g1, g2, g3, g4⟩
    go_enter Tryd.func25, Tryd.ntmps25
    go_wp2
    go_ret
    first
      | exact ⟨rfl, Bel.rf.al _⟩
      | exact ⟨.inl ⟨rfl, hyes⟩, Bel.rf.al _⟩
  all_goals
    have hno : ¬ DOk x p := fun ⟨h1, h2, h3, h4⟩ => by omega
    go_enter Tryd.func25, Tryd.ntmps25
    go_wp2
    go_ret
    first
      | exact ⟨rfl, Bel.rf.al _⟩
      | exact ⟨.inr ⟨rfl, hno⟩, Bel.rf.al _⟩
      | exact ⟨.inr ⟨congrArg (fun b => Ending.returned (.bool b)) (decide_eq_false (p := p ≤ 6) (by omega)), hno⟩, Bel.rf.al _⟩
theorem proper_any (x p : Int) (w : World) :
    Calls Tryd.prog 20 #[.agg #[.int .i64 x, .int .i64 p]] w fun e w' => ((e = .returned (.bool true) ∧ DOk x p) ∨ (e = .returned (.bool false) ∧ ¬ DOk x p)) ∧ Bel w w' := by
  rcases (show (-1000000000 ≤ x ∧ x ≤ 1000000000 ∧ 0 ≤ p ∧ p ≤ 6) ∨ x < -1000000000 ∨ (-1000000000 ≤ x ∧ 1000000000 < x) ∨ (-1000000000 ≤ x ∧ x ≤ 1000000000 ∧ p < 0) ∨ (-1000000000 ≤ x ∧ x ≤ 1000000000 ∧ 0 ≤ p ∧ 6 < p) by omega) with ⟨g1, g2, g3, g4⟩ | g1 | ⟨g1, g2⟩ | ⟨g1, g2, g3⟩ | ⟨g1, g2, g3, g4⟩
  · have hyes : DOk x p := ⟨g1, g2, g3, g4⟩
    go_enter Tryd.func20, Tryd.ntmps20
    go_wp2
    go_ret
    first
      | exact ⟨rfl, Bel.rf.al _⟩
      | exact ⟨.inl ⟨rfl, hyes⟩, Bel.rf.al _⟩
  all_goals
    have hno : ¬ DOk x p := fun ⟨h1, h2, h3, h4⟩ => by omega
    go_enter Tryd.func20, Tryd.ntmps20
    go_wp2
    go_ret
    first
      | exact ⟨rfl, Bel.rf.al _⟩
      | exact ⟨.inr ⟨rfl, hno⟩, Bel.rf.al _⟩
      | exact ⟨.inr ⟨congrArg (fun b => Ending.returned (.bool b)) (decide_eq_false (p := p ≤ 6) (by omega)), hno⟩, Bel.rf.al _⟩
set_option maxHeartbeats 4000000 in
theorem uconv_bad (x p : Int) (s : ByteArray) (m a d : Int) (hs : s.size ≤ 1000) (hno : ¬ (DOk x p ∧ UOk s m a d)) (w : World) :
    Calls Tryd.prog 10 #[.agg #[.int .i64 x, .int .i64 p], .agg #[.string s, .int .i64 m, .int .i64 a, .int .i64 d]] w fun e w' => ((e = .returned (.tuple #[.int .i64 0, .int .i64 3]) ∧ ¬ DOk x p) ∨ (e = .returned (.tuple #[.int .i64 0, .int .i64 7]) ∧ DOk x p)) ∧ Bel w w' := by
  have HD : Hid (∀ W, Calls Tryd.prog 25 #[.agg #[.int .i64 x, .int .i64 p]] W fun e w' => ((e = .returned (.bool true) ∧ DOk x p) ∨ (e = .returned (.bool false) ∧ ¬ DOk x p)) ∧ Bel W w') := dvalid_any x p
  have HU : Hid (∀ W, Calls Tryd.prog 12 #[.agg #[.string s, .int .i64 m, .int .i64 a, .int .i64 d]] W fun e w' => ((e = .returned (.bool true) ∧ UOk s m a d) ∨ (e = .returned (.bool false) ∧ ¬ UOk s m a d)) ∧ Bel W w') := uvalid_any s m a d hs
  have HNO := Lib.hid hno
  clear hno
  go_enter Tryd.func10, Tryd.ntmps10
  go_wp2_with fail
  go_at_call 25
  refine (HD.out _).mono ?_
  rintro e w1 ⟨(⟨rfl, hd⟩ | ⟨rfl, hd⟩), hb1⟩
  · have HDD := Lib.hid hd
    have HB1 : Hid (Bel w w1) := ((Bel.rf.al _).al _).tr hb1
    have K1 : Bk w1 (w.heap.size + 1) 25 #[.string s, .int .i64 m, .int .i64 a, .int .i64 d] := (Bk.nq _ _ _ (by simp)).bel hb1
    have k0 : w1.cell? ⟨w.heap.size + 1, 0, none⟩ = some (.string s) := K1.cell 0
    have k1 : w1.cell? ⟨w.heap.size + 1, 1, none⟩ = some (.int .i64 m) := K1.cell 1
    have k2 : w1.cell? ⟨w.heap.size + 1, 2, none⟩ = some (.int .i64 a) := K1.cell 2
    have k3 : w1.cell? ⟨w.heap.size + 1, 3, none⟩ = some (.int .i64 d) := K1.cell 3
    clear hd hb1 K1
    go_wp2_with fail
    go_at_call 12
    refine (HU.out _).mono ?_
    rintro e w2 ⟨(⟨rfl, hu⟩ | ⟨rfl, hu⟩), hb2⟩
    · exact absurd ⟨HDD.out, hu⟩ HNO.out
    · have HB2 := Lib.hid (HB1.out.tr hb2)
      clear hu hb2
      go_wp2
      go_ret2
      first | exact ⟨.inr ⟨rfl, HDD.out⟩, HB2.out⟩ | exact ⟨rfl, HB2.out⟩
  · have HDD := Lib.hid hd
    have HB1 : Hid (Bel w w1) := ((Bel.rf.al _).al _).tr hb1
    clear hd hb1
    go_wp2
    go_ret2
    first | exact ⟨.inl ⟨rfl, HDD.out⟩, HB1.out⟩ | exact ⟨rfl, HB1.out⟩
set_option maxHeartbeats 4000000 in
theorem rconv_bad (x p : Int) (s : ByteArray) (m a d : Int) (hs : s.size ≤ 1000) (hno : ¬ (DOk x p ∧ UOk s m a d)) (w : World) :
    Calls Tryd.prog 11 #[.agg #[.int .i64 x, .int .i64 p], .agg #[.string s, .int .i64 m, .int .i64 a, .int .i64 d]] w fun e w' => ((e = .returned (.tuple #[.int .i64 0, .int .i64 3]) ∧ ¬ DOk x p) ∨ (e = .returned (.tuple #[.int .i64 0, .int .i64 7]) ∧ DOk x p)) ∧ Bel w w' := by
  have HD : Hid (∀ W, Calls Tryd.prog 20 #[.agg #[.int .i64 x, .int .i64 p]] W fun e w' => ((e = .returned (.bool true) ∧ DOk x p) ∨ (e = .returned (.bool false) ∧ ¬ DOk x p)) ∧ Bel W w') := proper_any x p
  have HU : Hid (∀ W, Calls Tryd.prog 13 #[.agg #[.string s, .int .i64 m, .int .i64 a, .int .i64 d]] W fun e w' => ((e = .returned (.bool true) ∧ UOk s m a d) ∨ (e = .returned (.bool false) ∧ ¬ UOk s m a d)) ∧ Bel W w') := rvalid_any s m a d hs
  have HNO := Lib.hid hno
  clear hno
  go_enter Tryd.func11, Tryd.ntmps11
  go_wp2_with fail
  go_at_call 20
  refine (HD.out _).mono ?_
  rintro e w1 ⟨(⟨rfl, hd⟩ | ⟨rfl, hd⟩), hb1⟩
  · have HDD := Lib.hid hd
    have HB1 : Hid (Bel w w1) := ((Bel.rf.al _).al _).tr hb1
    have K1 : Bk w1 (w.heap.size + 1) 25 #[.string s, .int .i64 m, .int .i64 a, .int .i64 d] := (Bk.nq _ _ _ (by simp)).bel hb1
    have k0 : w1.cell? ⟨w.heap.size + 1, 0, none⟩ = some (.string s) := K1.cell 0
    have k1 : w1.cell? ⟨w.heap.size + 1, 1, none⟩ = some (.int .i64 m) := K1.cell 1
    have k2 : w1.cell? ⟨w.heap.size + 1, 2, none⟩ = some (.int .i64 a) := K1.cell 2
    have k3 : w1.cell? ⟨w.heap.size + 1, 3, none⟩ = some (.int .i64 d) := K1.cell 3
    clear hd hb1 K1
    go_wp2_with fail
    go_at_call 13
    refine (HU.out _).mono ?_
    rintro e w2 ⟨(⟨rfl, hu⟩ | ⟨rfl, hu⟩), hb2⟩
    · exact absurd ⟨HDD.out, hu⟩ HNO.out
    · have HB2 := Lib.hid (HB1.out.tr hb2)
      clear hu hb2
      go_wp2
      go_ret2
      first | exact ⟨.inr ⟨rfl, HDD.out⟩, HB2.out⟩ | exact ⟨rfl, HB2.out⟩
  · have HDD := Lib.hid hd
    have HB1 : Hid (Bel w w1) := ((Bel.rf.al _).al _).tr hb1
    clear hd hb1
    go_wp2
    go_ret2
    first | exact ⟨.inl ⟨rfl, HDD.out⟩, HB1.out⟩ | exact ⟨rfl, HB1.out⟩
end Go.Proofs.YtgclojonjglikaaDoor.Un
