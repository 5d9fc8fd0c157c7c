/- The contracts of the statements' own reader of numbers (shapesearchkeep.New, Mod, Raw, N, Pick): what they return, and that they change the reader alone. -/
import Derived.Test.YtkonknkoggfeaaaRows
import Derived.Test.YtkonknkoggfeaaaWords
import Derived.WalkLawsBesides
import Derived.WalkSpells
import Derived.Outline
import Derived.IntWalk
import Derived.Deep.QuietTactic
import Derived.BigQuiet
namespace Go.Proofs.Ytkonknkoggfeaaa.Sr
open Go.ChangeShapes Go.WideShapes Go.RowKit Wo
set_option linter.unusedVariables false
/-- only block g has changed, and what is new -/
def Ch (g : Nat) (w w' : World) : Prop := w.grownBy w' (some g)
section
variable {g : Nat} {a b c : World}
theorem Ch.rf : Ch g a a := World.grownBy.refl _ _
theorem Ch.tr (h : Ch g a b) (k : Ch g b c) : Ch g a c :=
  ⟨k.os.trans h.os, k.tape.trans h.tape, k.output.trans h.output, Nat.le_trans h.size k.size, fun i hi hn => (k.block i (Nat.lt_of_lt_of_le hi h.size) hn).trans (h.block i hi hn)⟩
theorem Ch.al (h : Ch g a b) (o : Obj) : Ch g a (b.alloc o) := h.tr (World.grownBy_alloc _ _ _)
theorem Ch.drwN (h : Ch g a b) (n : Nat) : Ch g a (b.drewN n) := ⟨h.os, h.tape, h.output, h.size, h.block⟩
theorem Ch.drw (h : Ch g a b) : Ch g a b.drew := ⟨h.os, h.tape, h.output, h.size, h.block⟩
theorem Ch.st (h : Ch g a b) (i : Nat) (u : Value) : Ch g a (b.setCell ⟨g, i, none⟩ u) :=
  ⟨h.os, h.tape, h.output, by simpa [World.setCell] using h.size, fun k hk hn => (Below.heap_setCell b ⟨g, i, none⟩ u k (fun e => hn (by rw [e]))).trans (h.block k hk hn)⟩
theorem Ch.st2 (h : Ch g a b) {p : Addr} (hp : a.heap.size ≤ p.block) (u : Value) : Ch g a (b.setCell p u) :=
  ⟨h.os, h.tape, h.output, by simpa [World.setCell] using h.size, fun k hk hn => (Below.heap_setCell b p u k (by omega)).trans (h.block k hk hn)⟩
theorem Ch.of_bel (h : Bel a b) : Ch g a b := ⟨h.bl.os, h.bl.tape, h.bl.output, h.size, fun k hk _ => h.bl.block k hk⟩
theorem Ch.sz (h : Ch g a b) : a.heap.size ≤ b.heap.size := h.size
/-- seen from before the reader was made, nothing has changed -/
theorem Bel.ch (h : Bel a b) (k : Ch g b c) (hg : a.heap.size ≤ g) : Bel a c :=
  ⟨k.os.trans h.bl.os, k.tape.trans h.bl.tape, k.output.trans h.bl.output, Nat.le_trans h.size k.size, fun i hi => (k.block i (Nat.lt_of_lt_of_le hi h.size) (fun e => by injection e with e; omega)).trans (h.bl.block i hi)⟩
theorem Ch.kp (h : Ch g a b) {p : Addr} {v : Value} (hc : a.cell? p = some v) (hn : p.block ≠ g) : b.cell? p = some v :=
  World.grownBy.cell h hc (fun e => hn (by injection e))
theorem Ch.bk {k : Nat} {t : TypeId} {cs : Array Value} (h : Ch g a b) (hc : Bk a k t cs) (hn : k ≠ g) : Bk b k t cs := (h.block k hc.lt (fun e => hn (by injection e))).trans hc
end
/-- block g is a reader -/
def Ok (w : World) (g : Nat) : Prop := ∃ (A : Option Addr) (n c k : Nat) (zs : List Int), Bk w g 44 #[.slice A n c, .int .i64 (k : Int)] ∧ k ≤ n ∧ n ≤ 2000 ∧
  (∀ j, -9223372036854775808 ≤ zs.getD j 0 ∧ zs.getD j 0 ≤ 9223372036854775807) ∧ (0 < n → ∃ x : Addr, A = some x ∧ x.block < g ∧ ∀ i, i < n → w.cell? (x.add i) = some (.int .i64 (zs.getD i 0)))
theorem add_block (a : Addr) (n : Nat) : (a.add n).block = a.block := by unfold Addr.add; split <;> rfl
theorem Ok.lt {w : World} {g : Nat} (h : Ok w g) : g < w.heap.size := by
  obtain ⟨A, n, c, k, zs, hb, _⟩ := h
  exact hb.lt
theorem Ok.bel {w w' : World} {g : Nat} (h : Ok w g) (hb : Bel w w') : Ok w' g := by
  obtain ⟨A, n, c, k, zs, h1, h2, h3, h4, h5⟩ := h
  refine ⟨A, n, c, k, zs, h1.bel hb, h2, h3, h4, fun hn => ?_⟩
  obtain ⟨x, e, hx, hc⟩ := h5 hn
  exact ⟨x, e, hx, fun i hi => hb.kp (hc i hi)⟩
theorem Ok.st {w : World} {g : Nat} (h : Ok w g) {p : Addr} (hp : g < p.block) (u : Value) : Ok (w.setCell p u) g := by
  obtain ⟨A, n, c, k, zs, h1, h2, h3, h4, h5⟩ := h
  refine ⟨A, n, c, k, zs, h1.far (by omega) u, h2, h3, h4, fun hn => ?_⟩
  obtain ⟨x, e, hx, hc⟩ := h5 hn
  exact ⟨x, e, hx, fun i hi => (World.cell?_setCell_other _ _ _ _ (fun e => by have := congrArg Addr.block e; rw [add_block] at this; omega)).trans (hc i hi)⟩
theorem Ok.drwN {w : World} {g : Nat} (h : Ok w g) (m : Nat) : Ok (w.drewN m) g := h.bel (Bel.rf.drwN m)
theorem mod_eq (x n : Int) (h1 : 1 ≤ n) : (x < 0 → x.tmod n < 0 → x.tmod n + n = x % n) ∧ (0 ≤ x.tmod n → x.tmod n = x % n) ∧ (-n < x.tmod n ∧ x.tmod n < n) := by
  have e := Int.emod_nonneg x (b := n) (by omega)
  have e2 := Int.emod_lt_of_pos x (b := n) (by omega)
  rcases Int.lt_or_le x 0 with hx | hx
  · have hy : x.tmod n = -((-x) % n) := by
      have := Int.neg_tmod (a := -x) (b := n)
      rw [Int.neg_neg] at this
      rw [this, Int.tmod_eq_emod_of_nonneg (by omega)]
    have a := Int.emod_nonneg (-x) (b := n) (by omega)
    have b := Int.emod_lt_of_pos (-x) (b := n) (by omega)
    have d1 := Int.emod_add_mul_ediv x n
    have d2 := Int.emod_add_mul_ediv (-x) n
    have hs : ∃ q : Int, x % n = -((-x) % n) + n * q := ⟨-((-x) / n) - x / n, by grind⟩
    obtain ⟨q, hq⟩ := hs
    rw [hy]
    refine ⟨fun _ h => ?_, fun h => ?_, by omega⟩
    · have hq1 : q = 1 := by
        rcases Int.lt_or_le q 1 with h' | h'
        · have := Int.mul_le_mul_of_nonneg_left (show q ≤ 0 by omega) (show 0 ≤ n by omega); simp at this; omega
        · rcases Int.lt_or_le 1 q with h2 | h2
          · have := Int.mul_le_mul_of_nonneg_left (show 2 ≤ q by omega) (show 0 ≤ n by omega); omega
          · omega
      subst hq1
      omega
    · have hz : (-x) % n = 0 := by omega
      have hq0 : q = 0 := by
        rcases Int.lt_or_le q 0 with h' | h'
        · have := Int.mul_le_mul_of_nonneg_left (show q ≤ -1 by omega) (show 0 ≤ n by omega); omega
        · rcases Int.lt_or_le 0 q with h2 | h2
          · have := Int.mul_le_mul_of_nonneg_left (show 1 ≤ q by omega) (show 0 ≤ n by omega); omega
          · omega
      subst hq0
      omega
  · rw [Int.tmod_eq_emod_of_nonneg hx]
    refine ⟨fun h => by omega, fun _ => rfl, by omega⟩
theorem mod_any (x n : Int) (h1 : 1 ≤ n) (h2 : n ≤ 9223372036854775807) (hx : -9223372036854775808 ≤ x) (hx2 : x ≤ 9223372036854775807) (w : World) :
    Calls Try.prog 8 #[.int .i64 x, .int .i64 n] w fun e w' => e = .returned (.int .i64 (x % n)) ∧ w = w' := by
  have m := mod_eq x n h1
  have hne : n ≠ 0 := by omega
  have e1 := m.2.2.1
  have e2 := m.2.2.2
  rcases Int.lt_or_le (x.tmod n) 0 with h | h
  · have hx0 : x < 0 := by
      rcases Int.lt_or_le x 0 with h' | h'
      · exact h'
      · have := Int.tmod_nonneg n h'; omega
    have HE := Lib.hid (m.1 hx0 h)
    clear m
    go_enter Try.func8, Try.ntmps8
    go_wp2
    go_ret
    exact ⟨ret_int HE.out, rfl⟩
  · have HE := Lib.hid (m.2.1 h)
    clear m
    go_enter Try.func8, Try.ntmps8
    go_wp2
    go_ret
    exact ⟨ret_int HE.out, rfl⟩
def SomeRaw (g : Nat) (w : World) (e : Ending) (w' : World) : Prop := ∃ x : Int, e = .returned (.int .i64 x) ∧ -9223372036854775808 ≤ x ∧ x ≤ 9223372036854775807 ∧ Ok w' g ∧ Ch g w w'
theorem raw_any (g : Nat) (w : World) (h : Ok w g) :
    Calls Try.prog 42 #[.pointer (some ⟨g, 0, none⟩)] w (SomeRaw g w) := by
  obtain ⟨A, n, c, k, zs, hb, h2, h3, h4, h5⟩ := id h
  have k0 : w.cell? ⟨g, 0, none⟩ = some (.slice A n c) := hb.cell 0
  have k1 : w.cell? ⟨g, 1, none⟩ = some (.int .i64 (k : Int)) := hb.cell 1
  rcases Nat.lt_or_ge k n with hk | hk
  · obtain ⟨x, rfl, hx, hc⟩ := h5 (by omega)
    have hcell := hc k hk
    have hxk := h4 k
    have HOK : Hid (Ok w g) := h
    have f1 : w.frozen? ⟨g, 1, none⟩ = false := hb.fr 1
    have bk : decide ((n : Int) ≤ (k : Int)) = false := by simp; omega
    have hk1 : (k : Int) < (n : Int) := by omega
    have hk0 : (0 : Int) ≤ (k : Int) := by omega
    have hn : (n : Int) ≤ 2000 := by omega
    have sm : IntKind.i64.wrap ((k : Int) + 1 - 1) = (k : Int) := by rw [show (k : Int) + 1 - 1 = k by omega]; exact IntWalk.i64_in _ (by omega)
    have hne : (x.add k).block ≠ g := by rw [add_block]; omega
    have HH5 := Lib.hid h5
    have HB := Lib.hid hb
    clear h h5 hc hb
    go_enter Try.func42, Try.ntmps42
    have hc2 : ∀ (m : Nat) (v : Value), ((w.drewN m).setCell ⟨g, 1, none⟩ v).cell? (x.add k) = some (.int .i64 (zs.getD k 0)) := fun m v => by
      rw [World.cell?_setCell_other _ _ _ _ (fun e => hne (by rw [← e]))]
      exact hcell
    have sm2 : IntKind.i64.wrap (k : Int) = (k : Int) := IntWalk.i64_in _ (by omega)
    go_wp2
    go_quiet (fail)
    go_wp2
    go_quiet (fail)
    go_wp2
    go_ret
    have h6 : ∀ p q : Nat, Ok (((w.drewN p).setCell ⟨g, 1, none⟩ (.int .i64 ((k : Int) + 1))).drewN q) g := fun p q => by
      refine ⟨some x, n, c, k + 1, zs, HB.out.st 1 _, by omega, h3, h4, fun hn => ?_⟩
      refine ⟨x, rfl, hx, fun i hi => ?_⟩
      obtain ⟨x', e, _, hcc⟩ := HH5.out hn
      injection e with e
      subst e
      exact (World.cell?_setCell_other _ _ _ _ (fun e => by have := congrArg Addr.block e; rw [add_block] at this; simp at this; omega)).trans (hcc i hi)
    exact ⟨_, rfl, hxk.1, hxk.2, h6 _ _, ((Ch.rf.drwN _).st 1 _).drwN _⟩
  · have HOK : Hid (Ok w g) := h
    have bk : decide ((n : Int) ≤ (k : Int)) = true := by simp; omega
    clear h h5 hb
    go_enter Try.func42, Try.ntmps42
    go_wp2
    go_quiet (fail)
    go_wp2
    go_ret
    exact ⟨0, rfl, by decide, by decide, HOK.out, Ch.rf.drwN _⟩
end Go.Proofs.Ytkonknkoggfeaaa.Sr
