/- The stable sort of nothing at all. -/
import Derived.Test.YtgcjangnlbhicaaStT
namespace Go.Proofs.Ytgcjangnlbhicaa.St
open Go.ChangeShapes Go.WideShapes Go.RowKit Wo Sr Wi Rm Rg
set_option linter.unusedVariables false
def Done (w : World) (e : Ending) (w' : World) : Prop := e = .returned (.tuple #[]) ∧ Bel w w'
set_option maxHeartbeats 2000000 in
theorem insertion_nil (w : World) : Calls Try.prog 47 #[.slice none 0 0, .int .i64 0, .int .i64 0, ord] w (Done w) := by
  unfold ord
  go_enter Try.func47, Try.ntmps47
  go_wp2
  go_loopw [8] (fun s8 wr => s8 = .int .i64 1 ∧ Bel w wr) (fun _ _ => 0)
  case atStart => exact ⟨rfl, by first | exact Bel.rf | exact Bel.rf.drwN _⟩
  case round =>
    obtain ⟨rfl, hb⟩ := hrel
    go_wp2
    go_end0
    exact ⟨rfl, by first | exact hb | exact hb.drwN _⟩
set_option maxHeartbeats 4000000 in
theorem stable_nil (w : World) : Calls Try.prog 44 #[.slice none 0 0, .int .i64 0, ord] w (Done w) := by
  have HI : Hid (∀ w, Calls Try.prog 47 #[.slice none 0 0, .int .i64 0, .int .i64 0, .func (.func 39) #[] #[]] w (Done w)) := insertion_nil
  unfold ord
  go_enter Try.func44, Try.ntmps44
  go_wp2
  go_loopw [7, 8] (fun s7 s8 wr => s7 = .int .i64 0 ∧ s8 = .int .i64 20 ∧ Bel w wr) (fun _ _ _ => 0)
  case atStart => exact ⟨rfl, rfl, by first | exact Bel.rf | exact Bel.rf.drwN _⟩
  case round =>
    obtain ⟨rfl, rfl, hb⟩ := hrel
    have HB := Lib.hid hb
    clear hb
    go_wp2_with fail
    go_at_call 47
    refine (HI.out _).mono ?_
    rintro e w2 ⟨rfl, hb2⟩
    have HB2 : Hid (Bel w w2) := by first | exact HB.out.tr hb2 | exact (HB.out.drwN _).tr hb2
    clear hb2
    go_wp2
    go_loopw [6] (fun s6 wr => s6 = .int .i64 20 ∧ Bel w wr) (fun _ _ => 0)
    case atStart => exact ⟨rfl, by first | exact HB2.out | exact HB2.out.drwN _⟩
    case round =>
      obtain ⟨rfl, hb⟩ := hrel
      go_wp2
      go_end0
      exact ⟨rfl, by first | exact hb | exact hb.drwN _⟩
set_option maxHeartbeats 2000000 in
theorem sort_nil (w : World) : Calls Try.prog 38 #[.slice none 0 0, ord] w (Done w) := by
  have HI : Hid (∀ w, Calls Try.prog 44 #[.slice none 0 0, .int .i64 0, .func (.func 39) #[] #[]] w (Done w)) := stable_nil
  unfold ord
  go_enter Try.func38, Try.ntmps38
  go_wp2_with fail
  go_at_call 44
  refine (HI.out _).mono ?_
  rintro e w2 ⟨rfl, hb2⟩
  have HB2 : Hid (Bel w w2) := by first | exact hb2 | exact (Bel.rf.drwN _).tr hb2
  clear hb2
  go_wp2
  go_end0
  exact ⟨rfl, by first | exact HB2.out | exact HB2.out.drwN _⟩
end Go.Proofs.Ytgcjangnlbhicaa.St
