/- The contract of shapesearchkeep.New: a new reader of the list. -/
import Derived.Test.YtkonknkoggfeaaaSrcN0
import Derived.OpenShut
namespace Go.Proofs.Ytkonknkoggfeaaa.Sr
open Go.ChangeShapes Go.WideShapes Go.RowKit Wo
set_option linter.unusedVariables false
def SomeNew (w : World) (e : Ending) (w' : World) : Prop := ∃ g : Nat, e = .returned (.pointer (some ⟨g, 0, none⟩)) ∧ w.heap.size ≤ g ∧ Ok w' g ∧ Bel w w'
theorem wf_range {zs : List Int} (h : ∀ n ∈ zs, (Lit.int .i64 n).wf = true) (j : Nat) : -9223372036854775808 ≤ zs.getD j 0 ∧ zs.getD j 0 ≤ 9223372036854775807 := by
  rw [List.getD_eq_getElem?_getD]
  exact range_i64 h j
set_option maxHeartbeats 1000000 in
theorem new_any (A : Option Addr) (len cap : Nat) (zs : List Int) (w : World)
    (h : (A = none ∧ len = 0 ∧ cap = 0 ∧ zs = []) ∨ ∃ x, A = some x ∧ len ≤ cap ∧ cap ≤ maxLen ∧ zs.length = cap ∧ (∀ i, i < zs.length → w.cell? (x.add i) = some (.int .i64 (zs.getD i 0))) ∧ ∀ n ∈ zs, (Lit.int .i64 n).wf = true) :
    Calls Try.prog 5 #[.slice A len cap] w (SomeNew w) := by
  rcases h with ⟨rfl, rfl, rfl, rfl⟩ | ⟨x, rfl, hl, hm, hz, hc, hw⟩
  · go_enter Try.func5, Try.ntmps5
    go_wp2
    go_ret
    exact ⟨_, rfl, Nat.le_refl _, ⟨none, 0, 0, 0, [], Bk.nw _ _ _, by omega, by omega, by simp, fun hn => by omega⟩, Bel.rf.al _⟩
  · unfold maxLen at hm
    have HW := Lib.hid hw
    have HC := Lib.hid hc
    have HZ := Lib.hid hz
    clear hw hc hz
    have hx : 0 < cap → x.block < w.heap.size := fun h0 => by
      have := World.block_lt_of_cell? w _ (HC.out 0 (by rw [HZ.out]; exact h0))
      rwa [add_block] at this
    have HX := Lib.hid hx
    clear hx
    have fin : ∀ n : Nat, n ≤ len → n ≤ 2000 → Ok (w.alloc (.cells #[.slice (some x) n cap, .int .i64 0] 44)) w.heap.size := fun n h1 h2 =>
      ⟨some x, n, cap, 0, zs, Bk.nw _ _ _, by omega, h2, wf_range HW.out, fun hn => ⟨x, rfl, HX.out (by omega), fun i hi => kp_al (HC.out i (by rw [HZ.out]; omega)) _⟩⟩
    have HF := Lib.hid fin
    clear fin
    rcases Nat.lt_or_ge 2000 len with h2 | h2
    · have bm : decide ((2000 : Int) < (len : Int)) = true := by simp; omega
      go_enter Try.func5, Try.ntmps5
      go_wp2
      go_ret
      exact ⟨_, rfl, Nat.le_refl _, HF.out 2000 (by omega) (by omega), Bel.rf.al _⟩
    · have bm : decide ((2000 : Int) < (len : Int)) = false := by simp; omega
      go_enter Try.func5, Try.ntmps5
      go_wp2
      go_ret
      exact ⟨_, rfl, Nat.le_refl _, HF.out len (by omega) (by omega), Bel.rf.al _⟩
end Go.Proofs.Ytkonknkoggfeaaa.Sr
