/- The contracts of the reference of layer 14: out, At and Before. -/
import Derived.Test.YthmdponfigepjaaEnv0c
import Derived.Test.YthmdponfigepjaaWarpMath
import Derived.Test.YthmdponfigepjaaEuc0
import Derived.BigQuiet
namespace Go.Proofs.Ythmdponfigepjaa.R14
open Go.ChangeShapes Go.WideShapes Go.RowKit Wo Sr Wi Eu Ev
set_option linter.unusedVariables false
/-- a pair of the windows within the band -/
def inn (n m : Nat) (b I J : Int) : Prop := 0 ≤ I ∧ 0 ≤ J ∧ I < (n : Int) ∧ J < (m : Int) ∧ I - J ≤ b ∧ J - I ≤ b
instance (n m : Nat) (b I J : Int) : Decidable (inn n m b I J) := by unfold inn; infer_instance
theorem out_no (n m : Nat) (b I J : Int) (h : inn n m b I J) (n2 : n ≤ 100) (m2 : m ≤ 100) (w : World) :
    Calls Try.prog 64 #[.int .i64 (n : Int), .int .i64 (m : Int), .int .i64 b, .int .i64 I, .int .i64 J] w fun e w' => e = .returned (.bool false) ∧ w = w' := by
  obtain ⟨h1, h2, h3, h4, h5, h6⟩ := h
  have ni : (n : Int) ≤ 100 := by omega
  have mi : (m : Int) ≤ 100 := by omega
  have d1 : ¬ I < 0 := by omega
  have d2 : ¬ J < 0 := by omega
  have d3 : ¬ (n : Int) ≤ I := by omega
  have d4 : ¬ (m : Int) ≤ J := by omega
  have d5 : ¬ b < I - J := by omega
  have d6 : ¬ b < J - I := by omega
  have e1 : decide (I < 0) = false := by simpa using h1
  have e2 : decide (J < 0) = false := by simpa using h2
  have e3 : decide ((n : Int) ≤ I) = false := by simpa using h3
  have e4 : decide ((m : Int) ≤ J) = false := by simpa using h4
  have e5 : decide (b < I - J) = false := by simpa using h5
  have e6 : decide (b < J - I) = false := by simpa using h6
  go_enter Try.func64, Try.ntmps64
  go_wp2
  go_ret
  exact ⟨rfl, rfl⟩
theorem out_yes (n m : Nat) (b I J : Int) (h : ¬ inn n m b I J) (i0 : -10 ≤ I) (i1 : I ≤ 100) (j0 : -10 ≤ J) (j1 : J ≤ 100) (n2 : n ≤ 100) (m2 : m ≤ 100) (w : World) :
    Calls Try.prog 64 #[.int .i64 (n : Int), .int .i64 (m : Int), .int .i64 b, .int .i64 I, .int .i64 J] w fun e w' => e = .returned (.bool true) ∧ w = w' := by
  have ni : (n : Int) ≤ 100 := by omega
  have mi : (m : Int) ≤ 100 := by omega
  have hh : I < 0 ∨ (0 ≤ I ∧ J < 0) ∨ (0 ≤ I ∧ 0 ≤ J ∧ (n : Int) ≤ I) ∨ (0 ≤ I ∧ 0 ≤ J ∧ I < (n : Int) ∧ (m : Int) ≤ J) ∨ (0 ≤ I ∧ 0 ≤ J ∧ I < (n : Int) ∧ J < (m : Int) ∧ b < I - J) ∨ (0 ≤ I ∧ 0 ≤ J ∧ I < (n : Int) ∧ J < (m : Int) ∧ I - J ≤ b ∧ b < J - I) := by
    unfold inn at h
    omega
  clear h
  have k1 : 0 ≤ I → (¬ I < 0 ∧ decide (I < 0) = false) := fun h => ⟨by omega, by simpa using h⟩
  have k2 : 0 ≤ J → (¬ J < 0 ∧ decide (J < 0) = false) := fun h => ⟨by omega, by simpa using h⟩
  have k3 : I < (n : Int) → (¬ (n : Int) ≤ I ∧ decide ((n : Int) ≤ I) = false) := fun h => ⟨by omega, by simpa using h⟩
  have k4 : J < (m : Int) → (¬ (m : Int) ≤ J ∧ decide ((m : Int) ≤ J) = false) := fun h => ⟨by omega, by simpa using h⟩
  have k5 : I - J ≤ b → (¬ b < I - J ∧ decide (b < I - J) = false) := fun h => ⟨by omega, by simpa using h⟩
  rcases hh with h1 | ⟨h1, h2⟩ | ⟨h1, h2, h3⟩ | ⟨h1, h2, h3, h4⟩ | ⟨h1, h2, h3, h4, h5⟩ | ⟨h1, h2, h3, h4, h5, h6⟩
  · have e1 : decide (I < 0) = true := by simpa using h1
    clear k1 k2 k3 k4 k5
    go_enter Try.func64, Try.ntmps64
    go_wp2
    go_ret
    exact ⟨rfl, rfl⟩
  · obtain ⟨d1, e1⟩ := k1 h1
    have e2 : decide (J < 0) = true := by simpa using h2
    clear k1 k2 k3 k4 k5
    go_enter Try.func64, Try.ntmps64
    go_wp2
    go_ret
    exact ⟨rfl, rfl⟩
  · obtain ⟨d1, e1⟩ := k1 h1
    obtain ⟨d2, e2⟩ := k2 h2
    have e3 : decide ((n : Int) ≤ I) = true := by simpa using h3
    clear k1 k2 k3 k4 k5
    go_enter Try.func64, Try.ntmps64
    go_wp2
    go_ret
    exact ⟨rfl, rfl⟩
  · obtain ⟨d1, e1⟩ := k1 h1
    obtain ⟨d2, e2⟩ := k2 h2
    obtain ⟨d3, e3⟩ := k3 h3
    have e4 : decide ((m : Int) ≤ J) = true := by simpa using h4
    clear k1 k2 k3 k4 k5
    go_enter Try.func64, Try.ntmps64
    go_wp2
    go_ret
    exact ⟨rfl, rfl⟩
  · obtain ⟨d1, e1⟩ := k1 h1
    obtain ⟨d2, e2⟩ := k2 h2
    obtain ⟨d3, e3⟩ := k3 h3
    obtain ⟨d4, e4⟩ := k4 h4
    have e5 : decide (b < I - J) = true := by simpa using h5
    clear k1 k2 k3 k4 k5
    go_enter Try.func64, Try.ntmps64
    go_wp2
    go_ret
    exact ⟨rfl, rfl⟩
  · obtain ⟨d1, e1⟩ := k1 h1
    obtain ⟨d2, e2⟩ := k2 h2
    obtain ⟨d3, e3⟩ := k3 h3
    obtain ⟨d4, e4⟩ := k4 h4
    obtain ⟨d5, e5⟩ := k5 h5
    have e6 : decide (b < J - I) = true := by simpa using h6
    clear k1 k2 k3 k4 k5
    go_enter Try.func64, Try.ntmps64
    go_wp2
    go_ret
    exact ⟨rfl, rfl⟩
/-- a table of rows, to be read -/
def TR (w : World) (g n m : Nat) (F : Nat → List Int) : Prop := g < w.heap.size ∧ ∀ i, i < n → ∃ r c, w.cell? ⟨g, i, none⟩ = some (.slice (some ⟨r, 0, none⟩) m c) ∧ Zi w (some ⟨r, 0, none⟩) m (F i)
theorem TR.bel {w w' : World} {g n m : Nat} {F : Nat → List Int} (h : TR w g n m F) (hb : Bel w w') : TR w' g n m F := ⟨Nat.lt_of_lt_of_le h.1 hb.size, fun i hi => by
  obtain ⟨r, c, h1, h2⟩ := h.2 i hi
  exact ⟨r, c, (Below.cell (p := ⟨g, i, none⟩) hb h.1).trans h1, h2.bel hb⟩⟩
/-- what At returns -/
def atv (n m : Nat) (b : Int) (F : Nat → List Int) (I J : Int) : Int := if inn n m b I J then (F I.toNat).getD J.toNat 0 else far
set_option maxHeartbeats 1000000 in
theorem at_ok (g c n m : Nat) (b I J : Int) (F : Nat → List Int) (n1 : 1 ≤ n) (n2 : n ≤ 32) (m1 : 1 ≤ m) (m2 : m ≤ 32) (i0 : -10 ≤ I) (i1 : I ≤ 100) (j0 : -10 ≤ J) (j1 : J ≤ 100) (w : World) (h : TR w g n m F) :
    Calls Try.prog 66 #[.slice (some ⟨g, 0, none⟩) n c, .int .i64 b, .int .i64 I, .int .i64 J] w fun e w' => e = .returned (.int .i64 (atv n m b F I J)) ∧ w = w' := by
  obtain ⟨r0, cc0, hc0, hz0⟩ := h.2 0 (by omega)
  have ni : (n : Int) ≤ 32 := by omega
  have mi : (m : Int) ≤ 32 := by omega
  have ni0 : (0 : Int) < (n : Int) := by omega
  have nz : ¬ (n : Int) = 0 := by omega
  have nz2 : ¬ n = 0 := by omega
  have nz3 : ((n : Int) == 0) = false := by simpa using nz2
  clear hz0
  rcases Classical.em (inn n m b I J) with hi | hi
  · have OK : Hid (∀ W, _) := fun W => out_no n m b I J hi (by omega) (by omega) W
    have hv : atv n m b F I J = (F I.toNat).getD J.toNat 0 := if_pos hi
    obtain ⟨h1, h2, h3, h4, h5, h6⟩ := hi
    obtain ⟨i, rfl⟩ := Int.eq_ofNat_of_zero_le h1
    obtain ⟨j, rfl⟩ := Int.eq_ofNat_of_zero_le h2
    obtain ⟨r, cc, hc, hz⟩ := h.2 i (by omega)
    have hcell := hz.at j (by omega)
    simp only [Int.toNat_natCast] at hv
    rw [hv]
    obtain ⟨x, hx⟩ : ∃ x, (F i).getD j 0 = x := ⟨_, rfl⟩
    rw [hx] at hcell ⊢
    clear hz hv hx h
    go_enter Try.func66, Try.ntmps66
    go_wp2_with (go_at_call 64; refine (OK.out _).mono ?_; rintro e w1 ⟨rfl, rfl⟩)
    go_ret
    exact ⟨rfl, rfl⟩
  · have OK : Hid (∀ W, _) := fun W => out_yes n m b I J hi i0 i1 j0 j1 (by omega) (by omega) W
    have hv : atv n m b F I J = far := if_neg hi
    rw [hv]
    clear hv h hi
    go_enter Try.func66, Try.ntmps66
    go_wp2_with (go_at_call 64; refine (OK.out _).mono ?_; rintro e w1 ⟨rfl, rfl⟩)
    go_ret
    exact ⟨rfl, rfl⟩
end Go.Proofs.Ythmdponfigepjaa.R14
