/- The contracts of unit.Valid and of the reference's Valid over any units: both say whether the unit is valid. -/
import Derived.Test.YtgclojonjglikaaDoorUnitConv
namespace Go.Proofs.YtgclojonjglikaaDoor.Un
open Go.ChangeShapes Go.WideShapes Go.RowKit Wo
set_option linter.unusedVariables false
def UOk (s : ByteArray) (m a d : Int) : Prop := Low s ∧ 1 ≤ m ∧ m ≤ 1000000 ∧ -1000000000 ≤ a ∧ a ≤ 1000000000 ∧ 1 ≤ d ∧ d ≤ 1000000
set_option maxHeartbeats 8000000 in
set_option maxRecDepth 100000 in
theorem uvalid_any (s : ByteArray) (m a d : Int) (hs : s.size ≤ 1000) (w : World) :
    Calls Tryd.prog 12 #[.agg #[.string s, .int .i64 m, .int .i64 a, .int .i64 d]] w fun e w' => ((e = .returned (.bool true) ∧ UOk s m a d) ∨ (e = .returned (.bool false) ∧ ¬ UOk s m a d)) ∧ Bel w w' := by
  have si : (s.size : Int) ≤ 1000 := by omega
  have HB : Hid (Bk (w.alloc (.cells #[.string s, .int .i64 m, .int .i64 a, .int .i64 d] 25)) w.heap.size 25 #[.string s, .int .i64 m, .int .i64 a, .int .i64 d]) := Bk.nw _ _ _
  rcases (show s.size < 1 ∨ 12 < s.size ∨ (1 ≤ s.size ∧ s.size ≤ 12) by omega) with h0 | h0 | ⟨s1, s2⟩
  · have hno : ¬ UOk s m a d := fun h => by have := h.1.1; omega
    have hi : (s.size : Int) < 1 := by omega
    go_enter Tryd.func12, Tryd.ntmps12
    go_wp2
    go_ret
    first | exact ⟨rfl, Bel.rf.al _⟩ | exact ⟨.inr ⟨rfl, hno⟩, Bel.rf.al _⟩
  · have hno : ¬ UOk s m a d := fun h => by have := h.1.2.1; omega
    have hi : (12 : Int) < (s.size : Int) := by omega
    go_enter Tryd.func12, Tryd.ntmps12
    go_wp2
    go_ret
    first | exact ⟨rfl, Bel.rf.al _⟩ | exact ⟨.inr ⟨rfl, hno⟩, Bel.rf.al _⟩
  · have si2 : (s.size : Int) ≤ 12 := by omega
    have si1 : (1 : Int) ≤ (s.size : Int) := by omega
    go_enter Tryd.func12, Tryd.ntmps12
    go_wp2
    go_loopw [17] (fun t wr => ∃ (k : Nat) (V : World), V = wr ∧ k ≤ s.size ∧ t = .int .i64 (k : Int) ∧ (∀ (i : Nat) (h : i < s.size), i < k → 97 ≤ s[i].toNat ∧ s[i].toNat ≤ 122) ∧ Bel w wr ∧ Bk wr w.heap.size 25 #[.string s, .int .i64 m, .int .i64 a, .int .i64 d]) (fun t _ => s.size - (intOf t).toNat)
    case atStart => exact ⟨0, _, rfl, by omega, rfl, fun i h1 h2 => by omega, Bel.rf.al _, HB.out⟩
    case round =>
      obtain ⟨k, wr, hwr, hk, rfl, hlo, hb, hbk⟩ := hrel
      subst hwr
      have k0 : wr.cell? ⟨w.heap.size, 0, none⟩ = some (.string s) := hbk.cell 0
      have k1 : wr.cell? ⟨w.heap.size, 1, none⟩ = some (.int .i64 m) := hbk.cell 1
      have k2 : wr.cell? ⟨w.heap.size, 2, none⟩ = some (.int .i64 a) := hbk.cell 2
      have k3 : wr.cell? ⟨w.heap.size, 3, none⟩ = some (.int .i64 d) := hbk.cell 3
      have HBK := Lib.hid hbk
      have HBE := Lib.hid hb
      have HLO := Lib.hid hlo
      clear hbk hb HB hlo
      rcases Nat.lt_or_ge k s.size with hlt | hge
      · have hi : (k : Int) < (s.size : Int) := by omega
        rcases (show (97 ≤ s[k].toNat ∧ s[k].toNat ≤ 122) ∨ s[k].toNat < 97 ∨ 122 < s[k].toNat by omega) with ⟨h1, h2⟩ | h1 | h1
        · go_wp2
          go_roundw
          case rel => exact ⟨k + 1, _, rfl, by omega, by go_num, fun i hi1 hi2 => by
            rcases Nat.lt_or_ge i k with h | h
            · exact HLO.out i hi1 h
            · obtain rfl : i = k := by omega
              exact ⟨h1, h2⟩, HBE.out, HBK.out⟩
          case measure => simp [intOf]; omega
        · have hno : ¬ UOk s m a d := fun h => by have := h.1.2.2 k hlt; omega
          go_wp2
          go_ret
          first | exact ⟨rfl, HBE.out⟩ | (refine ⟨?_, HBE.out⟩; simp; done) | (refine ⟨?_, HBE.out⟩; simp; omega) | exact ⟨.inr ⟨rfl, hno⟩, HBE.out⟩
        · have hno : ¬ UOk s m a d := fun h => by have := h.1.2.2 k hlt; omega
          go_wp2
          go_ret
          first | exact ⟨rfl, HBE.out⟩ | (refine ⟨?_, HBE.out⟩; simp; done) | (refine ⟨?_, HBE.out⟩; simp; omega) | exact ⟨.inr ⟨rfl, hno⟩, HBE.out⟩
      · obtain rfl : k = s.size := by omega
        rcases (show (1 ≤ m ∧ m ≤ 1000000 ∧ -1000000000 ≤ a ∧ a ≤ 1000000000 ∧ 1 ≤ d ∧ d ≤ 1000000) ∨ m < 1 ∨ (1 ≤ m ∧ 1000000 < m) ∨ (1 ≤ m ∧ m ≤ 1000000 ∧ a < -1000000000) ∨ (1 ≤ m ∧ m ≤ 1000000 ∧ -1000000000 ≤ a ∧ 1000000000 < a) ∨ (1 ≤ m ∧ m ≤ 1000000 ∧ -1000000000 ≤ a ∧ a ≤ 1000000000 ∧ d < 1) ∨ (1 ≤ m ∧ m ≤ 1000000 ∧ -1000000000 ≤ a ∧ a ≤ 1000000000 ∧ 1 ≤ d ∧ 1000000 < d) by omega) with ⟨g1, g2, g3, g4, g5, g6⟩ | g1 | ⟨g1, g2⟩ | ⟨g1, g2, g3⟩ | ⟨g1, g2, g3, g4⟩ | ⟨g1, g2, g3, g4, g5⟩ | ⟨g1, g2, g3, g4, g5, g6⟩
        · have hyes : UOk s m a d := ⟨⟨s1, s2, fun i h => HLO.out i h h⟩, g1, g2, g3, g4, g5, g6⟩
          go_wp2
          go_ret
          first | exact ⟨rfl, HBE.out⟩ | exact ⟨.inl ⟨rfl, hyes⟩, HBE.out⟩
        all_goals
          have hno : ¬ UOk s m a d := fun ⟨_, h1, h2, h3, h4, h5, h6⟩ => by omega
          go_wp2
          go_ret
          first
            | exact ⟨rfl, HBE.out⟩
            | exact ⟨.inr ⟨rfl, hno⟩, HBE.out⟩
            | exact ⟨.inr ⟨congrArg (fun b => Ending.returned (.bool b)) (decide_eq_false (p := d ≤ 1000000) (by omega)), hno⟩, HBE.out⟩
set_option maxHeartbeats 8000000 in
set_option maxRecDepth 100000 in
theorem rvalid_any (s : ByteArray) (m a d : Int) (hs : s.size ≤ 1000) (w : World) :
    Calls Tryd.prog 13 #[.agg #[.string s, .int .i64 m, .int .i64 a, .int .i64 d]] w fun e w' => ((e = .returned (.bool true) ∧ UOk s m a d) ∨ (e = .returned (.bool false) ∧ ¬ UOk s m a d)) ∧ Bel w w' := by
  have si : (s.size : Int) ≤ 1000 := by omega
  have HB : Hid (Bk (w.alloc (.cells #[.string s, .int .i64 m, .int .i64 a, .int .i64 d] 25)) w.heap.size 25 #[.string s, .int .i64 m, .int .i64 a, .int .i64 d]) := Bk.nw _ _ _
  go_enter Tryd.func13, Tryd.ntmps13
  go_wp2
  go_loopw [3] (fun t wr => ∃ (k : Nat) (V : World), V = wr ∧ k ≤ s.size ∧ t = .int .i64 (k : Int) ∧ (∀ (i : Nat) (h : i < s.size), i < k → 97 ≤ s[i].toNat ∧ s[i].toNat ≤ 122) ∧ Bel w wr ∧ Bk wr w.heap.size 25 #[.string s, .int .i64 m, .int .i64 a, .int .i64 d]) (fun t _ => s.size - (intOf t).toNat)
  case atStart => exact ⟨0, _, rfl, by omega, rfl, fun i h1 h2 => by omega, Bel.rf.al _, HB.out⟩
  case round =>
    obtain ⟨k, wr, hwr, hk, rfl, hlo, hb, hbk⟩ := hrel
    subst hwr
    have k0 : wr.cell? ⟨w.heap.size, 0, none⟩ = some (.string s) := hbk.cell 0
    have k1 : wr.cell? ⟨w.heap.size, 1, none⟩ = some (.int .i64 m) := hbk.cell 1
    have k2 : wr.cell? ⟨w.heap.size, 2, none⟩ = some (.int .i64 a) := hbk.cell 2
    have k3 : wr.cell? ⟨w.heap.size, 3, none⟩ = some (.int .i64 d) := hbk.cell 3
    have HBK := Lib.hid hbk
    have HBE := Lib.hid hb
    have HLO := Lib.hid hlo
    clear hbk hb HB hlo
    rcases Nat.lt_or_ge k s.size with hlt | hge
    · have hi : (k : Int) < (s.size : Int) := by omega
      rcases (show (97 ≤ s[k].toNat ∧ s[k].toNat ≤ 122) ∨ s[k].toNat < 97 ∨ 122 < s[k].toNat by omega) with ⟨h1, h2⟩ | h1 | h1
      · go_wp2
        go_roundw
        case rel => exact ⟨k + 1, _, rfl, by omega, by go_num, fun i hi1 hi2 => by
          rcases Nat.lt_or_ge i k with h | h
          · exact HLO.out i hi1 h
          · obtain rfl : i = k := by omega
            exact ⟨h1, h2⟩, HBE.out, HBK.out⟩
        case measure => simp [intOf]; omega
      · have hno : ¬ UOk s m a d := fun h => by have := h.1.2.2 k hlt; omega
        go_wp2
        go_ret
        first | exact ⟨rfl, HBE.out⟩ | (refine ⟨?_, HBE.out⟩; simp; done) | (refine ⟨?_, HBE.out⟩; simp; omega) | exact ⟨.inr ⟨rfl, hno⟩, HBE.out⟩
      · have hno : ¬ UOk s m a d := fun h => by have := h.1.2.2 k hlt; omega
        go_wp2
        go_ret
        first | exact ⟨rfl, HBE.out⟩ | (refine ⟨?_, HBE.out⟩; simp; done) | (refine ⟨?_, HBE.out⟩; simp; omega) | exact ⟨.inr ⟨rfl, hno⟩, HBE.out⟩
    · obtain rfl : k = s.size := by omega
      rcases (show s.size < 1 ∨ 12 < s.size ∨ (1 ≤ s.size ∧ s.size ≤ 12) by omega) with h0 | h0 | ⟨s1, s2⟩
      · have hno : ¬ UOk s m a d := fun h => by have := h.1.1; omega
        have hi : (s.size : Int) < 1 := by omega
        go_wp2
        go_ret
        first | exact ⟨rfl, HBE.out⟩ | (refine ⟨?_, HBE.out⟩; simp; done) | (refine ⟨?_, HBE.out⟩; simp; omega) | exact ⟨.inr ⟨rfl, hno⟩, HBE.out⟩
      · have hno : ¬ UOk s m a d := fun h => by have := h.1.2.1; omega
        have hi : (12 : Int) < (s.size : Int) := by omega
        go_wp2
        go_ret
        first | exact ⟨rfl, HBE.out⟩ | (refine ⟨?_, HBE.out⟩; simp; done) | (refine ⟨?_, HBE.out⟩; simp; omega) | exact ⟨.inr ⟨rfl, hno⟩, HBE.out⟩
      · have si2 : (s.size : Int) ≤ 12 := by omega
        have si1 : (1 : Int) ≤ (s.size : Int) := by omega
        rcases (show (1 ≤ m ∧ m ≤ 1000000 ∧ -1000000000 ≤ a ∧ a ≤ 1000000000 ∧ 1 ≤ d ∧ d ≤ 1000000) ∨ m < 1 ∨ (1 ≤ m ∧ 1000000 < m) ∨ (1 ≤ m ∧ m ≤ 1000000 ∧ a < -1000000000) ∨ (1 ≤ m ∧ m ≤ 1000000 ∧ -1000000000 ≤ a ∧ 1000000000 < a) ∨ (1 ≤ m ∧ m ≤ 1000000 ∧ -1000000000 ≤ a ∧ a ≤ 1000000000 ∧ d < 1) ∨ (1 ≤ m ∧ m ≤ 1000000 ∧ -1000000000 ≤ a ∧ a ≤ 1000000000 ∧ 1 ≤ d ∧ 1000000 < d) by omega) with ⟨g1, g2, g3, g4, g5, g6⟩ | g1 | ⟨g1, g2⟩ | ⟨g1, g2, g3⟩ | ⟨g1, g2, g3, g4⟩ | ⟨g1, g2, g3, g4, g5⟩ | ⟨g1, g2, g3, g4, g5, g6⟩
        · have hyes : UOk s m a d := ⟨⟨s1, s2, fun i h => HLO.out i h h⟩, g1, g2, g3, g4, g5, g6⟩
          go_wp2
          go_ret
          first | exact ⟨rfl, HBE.out⟩ | exact ⟨.inl ⟨rfl, hyes⟩, HBE.out⟩
        all_goals
          have hno : ¬ UOk s m a d := fun ⟨_, h1, h2, h3, h4, h5, h6⟩ => by omega
          go_wp2
          go_ret
          first
            | exact ⟨rfl, HBE.out⟩
            | exact ⟨.inr ⟨rfl, hno⟩, HBE.out⟩
            | exact ⟨.inr ⟨congrArg (fun b => Ending.returned (.bool b)) (decide_eq_false (p := d ≤ 1000000) (by omega)), hno⟩, HBE.out⟩
end Go.Proofs.YtgclojonjglikaaDoor.Un
