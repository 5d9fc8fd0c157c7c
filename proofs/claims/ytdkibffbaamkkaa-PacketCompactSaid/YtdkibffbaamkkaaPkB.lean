/- The contract of packet.decodeReading. -/
import Derived.Test.YtdkibffbaamkkaaPkE
import Derived.Test.YtdkibffbaamkkaaPkC
import Derived.Test.YtdkibffbaamkkaaCodecInt
namespace Go.Proofs.Ytdkibffbaamkkaa.Pk
open Go.ChangeShapes Go.WideShapes Go.RowKit Wo Sr Wi Rm Rg Cd Cr By
set_option linter.unusedVariables false
theorem sample_bad (n : Int) (h : n < -1000 ∨ 1000 < n) (w : World) : Calls Try.prog 57 #[.int .i64 n] w fun e w' => e = .returned (.bool false) ∧ w = w' := by
  rcases h with h | h
  · have h1 : ¬ -1000 ≤ n := by omega
    go_enter Try.func57, Try.ntmps57
    go_wp2
    go_ret
    exact ⟨rfl, rfl⟩
  · have h1 : ¬ n ≤ 1000 := by omega
    have h2 : -1000 ≤ n := by omega
    go_enter Try.func57, Try.ntmps57
    go_wp2
    go_ret
    exact ⟨rfl, rfl⟩
def SomeVr (t v : Int) (w : World) (e : Ending) (w' : World) : Prop := ∃ b : Bool, e = .returned (.bool b) ∧ (b = true ↔ Vr t v) ∧ Bel w w'
theorem reading_any (t v : Int) (w : World) : Calls Try.prog 44 #[.agg #[.int .i64 t, .int .i64 v]] w (SomeVr t v w) := by
  rcases Int.lt_or_le t 0 with h | h
  · have h1 : ¬ 0 ≤ t := by omega
    go_enter Try.func44, Try.ntmps44
    go_wp2
    go_ret
    exact ⟨_, rfl, ⟨fun h => (by cases h), fun h9 => (by have := h9; unfold Vr at this; omega)⟩, by first | exact Bel.rf.al _ | exact (Bel.rf.al _).drwN _⟩
  · rcases Int.lt_or_le 1099511627776 t with h2 | h2
    · have h1 : ¬ t ≤ 1099511627776 := by omega
      go_enter Try.func44, Try.ntmps44
      go_wp2
      go_ret
      exact ⟨_, rfl, ⟨fun h => (by cases h), fun h9 => (by have := h9; unfold Vr at this; omega)⟩, by first | exact Bel.rf.al _ | exact (Bel.rf.al _).drwN _⟩
    · rcases (show (v < -1000 ∨ 1000 < v) ∨ (-1000 ≤ v ∧ v ≤ 1000) by omega) with hv | ⟨hv, hv2⟩
      · go_enter Try.func44, Try.ntmps44
        go_wp2_with (go_at_call 57; refine (sample_bad v hv _).mono ?_; rintro e w' ⟨rfl, rfl⟩)
        go_ret
        exact ⟨_, rfl, ⟨fun h => (by cases h), fun h9 => (by have := h9; unfold Vr at this; omega)⟩, by first | exact Bel.rf.al _ | exact (Bel.rf.al _).drwN _⟩
      · go_enter Try.func44, Try.ntmps44
        go_wp2_with (go_at_call 57; refine (sample_ok v hv hv2 _).mono ?_; rintro e w' ⟨rfl, rfl⟩)
        go_ret
        exact ⟨_, rfl, ⟨fun _ => ⟨h, h2, hv, hv2⟩, fun _ => rfl⟩, by first | exact Bel.rf.al _ | exact (Bel.rf.al _).drwN _⟩
theorem results_r3 {fn : Func} {p u x : Tmp} (h : fn.results = #[.cell p 40, .tmp u, .tmp x]) (tmps : Array Value) (w : World) (g : Nat) (a b c d : Value)
    (hp : tmps.getD p undef = .pointer (some ⟨g, 0, none⟩)) (hu : tmps.getD u undef = c) (hx : tmps.getD x undef = d) (hg : Bk w g 40 #[a, b]) :
    (results fn tmps).run Try.prog w = .ok (.tuple #[.agg #[a, b], c, d]) w := by
  subst hu hx
  have hp' : tmps[p]?.getD undef = .pointer (some ⟨g, 0, none⟩) := by simpa using hp
  have hl := run_loadVar_row (P := Try.prog) w g 40 40 #[a, b] (0, 0) _ hg Try.underlying40 rfl (by kernel_rfl)
  simp [results, h, hp', asAddr, hl]
theorem int_as (A : Option Addr) (c : Nat) (B : List Nat) (lb at_ : Nat) (hlb : B.length = lb) (d : Int × Int × Int) (hd : dec B at_ = d) (hat : at_ ≤ lb) (hB : lb ≤ 140737488355000) (w : World) (hr : Rd w A lb B) :
    Calls Try.prog 48 #[.slice A lb c, .int .i64 (at_ : Int)] w fun e w' => e = .returned (.tuple #[.int .i64 d.1, .int .i64 d.2.1, .int .i64 d.2.2]) ∧ w = w' := by
  subst hlb hd
  exact int_any A c B at_ hat hB w hr
/-- a reading that was read, or an error -/
def SomeRd (L : List Nat) (m at_ : Nat) (t v : Int) (w : World) (e : Ending) (w' : World) : Prop := ∃ (T V k er : Int), e = .returned (.tuple #[.agg #[.int .i64 T, .int .i64 V], .int .i64 k, .int .i64 er]) ∧ Bel w w' ∧
  (er = 0 → Vr T V ∧ ∃ j : Nat, k = (j : Int) ∧ at_ < j ∧ j ≤ m ∧ L.drop at_ = bytesOf (T - t) ++ (bytesOf (V - v) ++ L.drop j)) ∧
  (∀ (T V : Int) (R : List Nat), Vr T V → L.drop at_ = bytesOf (T - t) ++ (bytesOf (V - v) ++ R) → er = 0)
theorem add_safe {q t : Int} (h : In64 q) (t0 : -1000 ≤ t) (t1 : t ≤ 1099511627776) (T : Int) (hT : wrap64 (t + q) = T) (T0 : -1000 ≤ T) (T1 : T ≤ 1099511627776) : T = t + q := by
  obtain ⟨h1, h2⟩ := h
  unfold wrap64 at hT
  omega
end Go.Proofs.Ytdkibffbaamkkaa.Pk
