/- The contracts of the statements' own reader of numbers (shapesearchkeep.New, Mod, Raw, N, Pick): what they return, and that they change the reader alone. -/
import Derived.Test.YtagodfielmdfhaaDoorRows
import Derived.Test.YtagodfielmdfhaaDoorWords
import Derived.WalkLawsBesides
import Derived.WalkSpells
import Derived.Outline
import Derived.IntWalk
import Derived.Deep.QuietTactic
import Derived.BigQuiet
namespace Go.Proofs.YtagodfielmdfhaaDoor.Sr
open Go.ChangeShapes Go.WideShapes Go.RowKit Wo
set_option linter.unusedVariables false
/-- only block g has changed, and what is new -/
def Ch (g : Nat) (w w' : World) : Prop := w.grownBy w' (some g)
section
variable {g : Nat} {a b c : World}
theorem Ch.rf : Ch g a a := World.grownBy.refl _ _
theorem Ch.tr (h : Ch g a b) (k : Ch g b c) : Ch g a c :=
  ⟨k.os.trans h.os, k.tape.trans h.tape, k.output.trans h.output, Nat.le_trans h.size k.size, fun i hi hn => (k.block i (Nat.lt_of_lt_of_le hi h.size) hn).trans (h.block i hi hn)⟩
theorem Ch.al (h : Ch g a b) (o : Obj) : Ch g a (b.alloc o) := h.tr (World.grownBy_alloc _ _ _)
theorem Ch.drwN (h : Ch g a b) (n : Nat) : Ch g a (b.drewN n) := ⟨h.os, h.tape, h.output, h.size, h.block⟩
theorem Ch.drw (h : Ch g a b) : Ch g a b.drew := ⟨h.os, h.tape, h.output, h.size, h.block⟩
theorem Ch.st (h : Ch g a b) (i : Nat) (u : Value) : Ch g a (b.setCell ⟨g, i, none⟩ u) :=
  ⟨h.os, h.tape, h.output, by simpa [World.setCell] using h.size, fun k hk hn => (Below.heap_setCell b ⟨g, i, none⟩ u k (fun e => hn (by rw [e]))).trans (h.block k hk hn)⟩
theorem Ch.st2 (h : Ch g a b) {p : Addr} (hp : a.heap.size ≤ p.block) (u : Value) : Ch g a (b.setCell p u) :=
  ⟨h.os, h.tape, h.output, by simpa [World.setCell] using h.size, fun k hk hn => (Below.heap_setCell b p u k (by omega)).trans (h.block k hk hn)⟩
theorem Ch.of_bel (h : Bel a b) : Ch g a b := ⟨h.bl.os, h.bl.tape, h.bl.output, h.size, fun k hk _ => h.bl.block k hk⟩
theorem Ch.sz (h : Ch g a b) : a.heap.size ≤ b.heap.size := h.size
/-- seen from before the reader was made, nothing has changed -/
theorem Bel.ch (h : Bel a b) (k : Ch g b c) (hg : a.heap.size ≤ g) : Bel a c :=
  ⟨k.os.trans h.bl.os, k.tape.trans h.bl.tape, k.output.trans h.bl.output, Nat.le_trans h.size k.size, fun i hi => (k.block i (Nat.lt_of_lt_of_le hi h.size) (fun e => by injection e with e; omega)).trans (h.bl.block i hi)⟩
theorem Ch.kp (h : Ch g a b) {p : Addr} {v : Value} (hc : a.cell? p = some v) (hn : p.block ≠ g) : b.cell? p = some v :=
  World.grownBy.cell h hc (fun e => hn (by injection e))
theorem Ch.bk {k : Nat} {t : TypeId} {cs : Array Value} (h : Ch g a b) (hc : Bk a k t cs) (hn : k ≠ g) : Bk b k t cs := (h.block k hc.lt (fun e => hn (by injection e))).trans hc
end
theorem add_block (a : Addr) (n : Nat) : (a.add n).block = a.block := by unfold Addr.add; split <;> rfl
theorem mod_eq (x n : Int) (h1 : 1 ≤ n) : (x < 0 → x.tmod n < 0 → x.tmod n + n = x % n) ∧ (0 ≤ x.tmod n → x.tmod n = x % n) ∧ (-n < x.tmod n ∧ x.tmod n < n) := by
  have e := Int.emod_nonneg x (b := n) (by omega)
  have e2 := Int.emod_lt_of_pos x (b := n) (by omega)
  rcases Int.lt_or_le x 0 with hx | hx
  · have hy : x.tmod n = -((-x) % n) := by
      have := Int.neg_tmod (a := -x) (b := n)
      rw [Int.neg_neg] at this
      rw [this, Int.tmod_eq_emod_of_nonneg (by omega)]
    have a := Int.emod_nonneg (-x) (b := n) (by omega)
    have b := Int.emod_lt_of_pos (-x) (b := n) (by omega)
    have d1 := Int.emod_add_mul_ediv x n
    have d2 := Int.emod_add_mul_ediv (-x) n
    have hs : ∃ q : Int, x % n = -((-x) % n) + n * q := ⟨-((-x) / n) - x / n, by grind⟩
    obtain ⟨q, hq⟩ := hs
    rw [hy]
    refine ⟨fun _ h => ?_, fun h => ?_, by omega⟩
    · have hq1 : q = 1 := by
        rcases Int.lt_or_le q 1 with h' | h'
        · have := Int.mul_le_mul_of_nonneg_left (show q ≤ 0 by omega) (show 0 ≤ n by omega); simp at this; omega
        · rcases Int.lt_or_le 1 q with h2 | h2
          · have := Int.mul_le_mul_of_nonneg_left (show 2 ≤ q by omega) (show 0 ≤ n by omega); omega
          · omega
      subst hq1
      omega
    · have hz : (-x) % n = 0 := by omega
      have hq0 : q = 0 := by
        rcases Int.lt_or_le q 0 with h' | h'
        · have := Int.mul_le_mul_of_nonneg_left (show q ≤ -1 by omega) (show 0 ≤ n by omega); omega
        · rcases Int.lt_or_le 0 q with h2 | h2
          · have := Int.mul_le_mul_of_nonneg_left (show 1 ≤ q by omega) (show 0 ≤ n by omega); omega
          · omega
      subst hq0
      omega
  · rw [Int.tmod_eq_emod_of_nonneg hx]
    refine ⟨fun h => by omega, fun _ => rfl, by omega⟩
end Go.Proofs.YtagodfielmdfhaaDoor.Sr
