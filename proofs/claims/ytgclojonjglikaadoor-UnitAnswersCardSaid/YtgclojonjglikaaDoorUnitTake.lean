/- The contract of unit.scan's take. -/
import Derived.Test.YtgclojonjglikaaDoorUnitScan
namespace Go.Proofs.YtgclojonjglikaaDoor.Un
open Go.ChangeShapes Go.WideShapes Go.RowKit Wo
set_option linter.unusedVariables false
set_option maxHeartbeats 4000000 in
set_option maxRecDepth 100000 in
theorem take_any (g : Nat) (c : Nat) (hc : c < 256) (S : Sc) (w : World) (hb : Bk w g 53 S.cells) (n : Int) (hn : n ≤ 4611686018427387904) (hS : S.ok n) :
    Calls Tryd.prog 24 #[.pointer (some ⟨g, 0, none⟩), .int .u8 (c : Int)] w fun x w' => x = .returned (.tuple #[]) ∧ Ch1 g w w' ∧ Bk w' g 53 (S.take c).cells := by
  have k3 : w.cell? ⟨g, 3, none⟩ = some (.bool S.point) := hb.cell 3
  have k5 : w.cell? ⟨g, 5, none⟩ = some (.bool S.some) := hb.cell 5
  have k6 : w.cell? ⟨g, 6, none⟩ = some (.bool S.wrong) := hb.cell 6
  have f3 : w.frozen? ⟨g, 3, none⟩ = false := hb.fr 3
  have f5 : w.frozen? ⟨g, 5, none⟩ = false := hb.fr 5
  have f6 : w.frozen? ⟨g, 6, none⟩ = false := hb.fr 6
  have ci : (c : Int) < 256 := by omega
  rcases Classical.em (49 ≤ c ∧ c ≤ 57) with h | h
  · have HT : Hid (S.take c = ({ S with some := true } : Sc).digit ((c : Int) - 48)) := by show S.take c = _; unfold Sc.take; rw [if_pos h]
    obtain ⟨h1, h2⟩ := h
    have i1 : (49 : Int) ≤ (c : Int) := by omega
    have i2 : (c : Int) ≤ 57 := by omega
    have HB2 : Hid (Bk (w.setCell ⟨g, 5, none⟩ (.bool true)) g 53 ({ S with some := true } : Sc).cells) := hb.st 5 _
    have HD : Hid (Calls Tryd.prog 36 #[.pointer (some ⟨g, 0, none⟩), .int .i64 ((c : Int) - 48)] (w.setCell ⟨g, 5, none⟩ (.bool true)) fun x w' => x = .returned (.tuple #[]) ∧ Ch1 g (w.setCell ⟨g, 5, none⟩ (.bool true)) w' ∧ Bk w' g 53 (({ S with some := true } : Sc).digit ((c : Int) - 48)).cells) :=
      digit_any g _ _ _ HB2.out (by omega) (by omega) n hn hS
    clear hb HB2 h1 h2
    go_enter Tryd.func24, Tryd.ntmps24
    go_wp2_with fail
    go_at_call 36
    refine (HD.out).mono ?_
    rintro x w1 ⟨rfl, hc1, hb1⟩
    have HC1 := Lib.hid (ch1_tr (ch1_st ch1_rf 5 (.bool true)) hc1)
    have HB1 := Lib.hid hb1
    clear hc1 hb1
    go_wp2
    go_end0
    exact ⟨rfl, HC1.out, by rw [HT.out]; exact HB1.out⟩
  · rcases Classical.em (c = 48) with h0 | h0
    · have HT : Hid (S.take c = S.digit 0) := by show S.take c = _; unfold Sc.take; rw [if_neg h, if_pos h0]
      subst h0
      have HD : Hid (Calls Tryd.prog 36 #[.pointer (some ⟨g, 0, none⟩), .int .i64 0] w fun x w' => x = .returned (.tuple #[]) ∧ Ch1 g w w' ∧ Bk w' g 53 (S.digit 0).cells) :=
        digit_any g _ _ _ hb (by omega) (by omega) n hn hS
      clear hb h hc ci
      go_enter Tryd.func24, Tryd.ntmps24
      go_wp2_with fail
      go_at_call 36
      refine (HD.out).mono ?_
      rintro x w1 ⟨rfl, hc1, hb1⟩
      have HC1 := Lib.hid hc1
      have HB1 := Lib.hid hb1
      clear hc1 hb1
      go_wp2
      go_end0
      exact ⟨rfl, HC1.out, by rw [HT.out]; exact HB1.out⟩
    · have n48 : ((c : Int) == 48) = false := by simpa using (by omega : (c : Int) ≠ 48)
      rcases Classical.em (c = 46 ∧ S.point = false) with h1 | h1
      · have HT : Hid (S.take c = { S with point := true }) := by show S.take c = _; unfold Sc.take; rw [if_neg h, if_neg h0, if_pos h1]
        obtain ⟨rfl, hp⟩ := h1
        rw [hp] at k3
        have HB := Lib.hid hb
        clear hb h h0 hc ci n48 hp
        go_enter Tryd.func24, Tryd.ntmps24
        go_wp2
        go_end0
        exact ⟨rfl, ch1_st ch1_rf _ _, by rw [HT.out]; exact HB.out.st 3 (.bool true)⟩
      · have HT : Hid (S.take c = { S with wrong := true }) := by show S.take c = _; unfold Sc.take; rw [if_neg h, if_neg h0, if_neg h1]
        have HB := Lib.hid hb
        have o1 : decide (49 ≤ (c : Int)) = false ∨ decide (49 ≤ (c : Int)) = true ∧ decide ((c : Int) ≤ 57) = false := by
          rcases Nat.lt_or_ge c 49 with h | h
          · exact .inl (decide_eq_false (by omega))
          · exact .inr ⟨decide_eq_true (by omega), decide_eq_false (by omega)⟩
        have o2 : ((c : Int) == 46) = false ∨ ((c : Int) == 46) = true ∧ S.point = true := by
          rcases Classical.em (c = 46) with h | h
          · refine .inr ⟨by simpa using (by omega : (c : Int) = 46), ?_⟩
            rcases hp : S.point
            · exact absurd ⟨h, hp⟩ h1
            · rfl
          · exact .inl (by simpa using (by omega : (c : Int) ≠ 46))
        clear hb h h0 h1 hc ci
        rcases o1 with g1 | ⟨g1, g2⟩ <;> rcases o2 with g3 | ⟨g3, g4⟩
        all_goals
          first
          | (rw [g4] at k3; clear g4)
          | skip
          go_enter Tryd.func24, Tryd.ntmps24
          go_wp2
          go_end0
          exact ⟨rfl, ch1_st ch1_rf _ _, by rw [HT.out]; exact HB.out.st 6 (.bool true)⟩
end Go.Proofs.YtgclojonjglikaaDoor.Un
