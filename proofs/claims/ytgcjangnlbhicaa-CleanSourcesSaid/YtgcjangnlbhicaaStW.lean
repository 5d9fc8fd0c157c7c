/- Rows of readings that are sorted in place: cmp.Compare, the order of clean.groups, one block of the insertion, exchanges of parts. -/
import Derived.Test.YtgcjangnlbhicaaStM
import Derived.Test.YtgcjangnlbhicaaRds
import Derived.Deep.RegionHeld3
namespace Go.Proofs.Ytgcjangnlbhicaa.St
open Go.ChangeShapes Go.WideShapes Go.RowKit Wo Sr Wi Rm Rg
set_option linter.unusedVariables false
/-- the order of two numbers -/
def cm (x y : Int) : Int := if x < y then -1 else if y < x then 1 else 0
theorem cm_lt (x y : Int) : cm x y < 0 ↔ x < y := by unfold cm; split <;> (try split) <;> omega
theorem nan_ok (x : Int) (w : World) : Calls Try.prog 45 #[.int .i64 x] w fun e w' => e = .returned (.bool false) ∧ w = w' := by
  have k := ne_self x
  go_enter Try.func45, Try.ntmps45
  go_wp2
  go_ret
  exact ⟨rfl, rfl⟩
theorem compare_ok (x y : Int) (w : World) : Calls Try.prog 40 #[.int .i64 x, .int .i64 y] w fun e w' => e = .returned (.int .i64 (cm x y)) ∧ w = w' := by
  rcases Int.lt_trichotomy x y with h | h | h
  · have HE : Hid (cm x y = -1) := if_pos h
    go_enter Try.func40, Try.ntmps40
    go_wp2_with (go_at_call 45; refine (nan_ok _ _).mono ?_; rintro e w' ⟨rfl, rfl⟩)
    go_ret
    exact ⟨ret_int HE.out.symm, rfl⟩
  · subst h
    have HE : Hid (cm x x = 0) := by show _ = _; unfold cm; rw [if_neg (by omega), if_neg (by omega)]
    go_enter Try.func40, Try.ntmps40
    go_wp2_with (go_at_call 45; refine (nan_ok _ _).mono ?_; rintro e w' ⟨rfl, rfl⟩)
    go_ret
    exact ⟨ret_int HE.out.symm, rfl⟩
  · have HE : Hid (cm x y = 1) := by show _ = _; unfold cm; rw [if_neg (by omega), if_pos h]
    have h2 : ¬ x < y := by omega
    have d2 : decide (x < y) = false := decide_eq_false h2
    go_enter Try.func40, Try.ntmps40
    go_wp2_with (go_at_call 45; refine (nan_ok _ _).mono ?_; rintro e w' ⟨rfl, rfl⟩)
    go_ret
    exact ⟨ret_int HE.out.symm, rfl⟩
/-- the order by time, as a value -/
def ord : Value := .func (.func 39) #[] #[]
theorem ord_ok (t v s u : Int) (w : World) : Calls Try.prog 39 #[.agg #[.int .i64 t, .int .i64 v], .agg #[.int .i64 s, .int .i64 u]] w fun e w' => e = .returned (.int .i64 (cm t s)) ∧ Bel w w' := by
  go_enter Try.func39, Try.ntmps39
  go_wp2_with (go_at_call 40; refine (compare_ok _ _ _).mono ?_; rintro e w' ⟨rfl, rfl⟩)
  go_ret
  exact ⟨rfl, (Bel.rf.al _).al _⟩
/-- a block whose first cells are these readings, none of them frozen -/
def Rw (w : World) (g n : Nat) (l : List Rp) : Prop := l.length = n ∧ g < w.heap.size ∧ ∀ j, j < n → w.cell? ⟨g, j * 2, none⟩ = some (.int .i64 (tm l j)) ∧ w.cell? ⟨g, j * 2 + 1, none⟩ = some (.int .i64 (vl l j)) ∧ w.frozen? ⟨g, j * 2, none⟩ = false ∧ w.frozen? ⟨g, j * 2 + 1, none⟩ = false
theorem Rw.bel {w w' : World} {g n : Nat} {l : List Rp} (h : Rw w g n l) (hb : Bel w w') : Rw w' g n l :=
  ⟨h.1, by have := hb.size; have := h.2.1; omega, fun j hj => by
    obtain ⟨a, b, c, d⟩ := h.2.2 j hj
    exact ⟨hb.kp a, hb.kp b, (Below.frozen (p := ⟨g, j * 2, none⟩) hb h.2.1).trans c, (Below.frozen (p := ⟨g, j * 2 + 1, none⟩) hb h.2.1).trans d⟩⟩
theorem Rw.zr {w : World} {g n : Nat} {l : List Rp} (h : Rw w g n l) : Zr w (some ⟨g, 0, none⟩) n l := ⟨h.1, fun _ => ⟨g, rfl, h.2.1, fun j hj => ⟨(h.2.2 j hj).1, (h.2.2 j hj).2.1⟩⟩⟩
theorem fr_set (w : World) (p q : Addr) (u : Value) : (w.setCell p u).frozen? q = w.frozen? q := World.frozen?_setCell ..
theorem cell_same {w : World} {g o : Nat} {x u : Value} (h : w.cell? ⟨g, o, none⟩ = some x) : (w.setCell ⟨g, o, none⟩ u).cell? ⟨g, o, none⟩ = some u := World.cell?_setCell_same _ _ _ h
/-- a reading stored in the row -/
theorem Rw.st {w : World} {g n : Nat} {l : List Rp} (h : Rw w g n l) (i : Nat) (hi : i < n) (x : Rp) : Rw ((w.setCell ⟨g, i * 2, none⟩ (.int .i64 x.1)).setCell ⟨g, i * 2 + 1, none⟩ (.int .i64 x.2)) g n (l.set i x) := by
  refine ⟨by rw [List.length_set]; exact h.1, by simpa [World.setCell] using h.2.1, fun j hj => ?_⟩
  obtain ⟨a, b, c, d⟩ := h.2.2 j hj
  obtain ⟨a', b', c', d'⟩ := h.2.2 i hi
  have hl : i < l.length := by rw [h.1]; exact hi
  refine ⟨?_, ?_, by rw [fr_set, fr_set]; exact c, by rw [fr_set, fr_set]; exact d⟩
  · rw [World.cell?_setCell_other _ _ _ _ (fun e => by injection e with e1 e2; omega), tm_rd, rd_set _ _ _ _ hl]
    by_cases e : j = i
    · subst e; rw [if_pos rfl]; exact cell_same a'
    · rw [if_neg e, World.cell?_setCell_other _ _ _ _ (fun e2 => by injection e2 with e1 e2; omega)]; exact a
  · rw [vl_rd, rd_set _ _ _ _ hl]
    by_cases e : j = i
    · subst e; rw [if_pos rfl]
      exact cell_same ((World.cell?_setCell_other _ _ _ _ (fun e => by injection e with e1 e2; omega)).trans b')
    · rw [if_neg e, World.cell?_setCell_other _ _ _ _ (fun e2 => by injection e2 with e1 e2; omega), World.cell?_setCell_other _ _ _ _ (fun e2 => by injection e2 with e1 e2; omega)]; exact b
theorem Rw.swp {w : World} {g n : Nat} {l : List Rp} (h : Rw w g n l) (i j : Nat) (hi : i < n) (hj : j < n) :
    Rw ((((w.setCell ⟨g, i * 2, none⟩ (.int .i64 (tm l j))).setCell ⟨g, i * 2 + 1, none⟩ (.int .i64 (vl l j))).setCell ⟨g, j * 2, none⟩ (.int .i64 (tm l i))).setCell ⟨g, j * 2 + 1, none⟩ (.int .i64 (vl l i))) g n (Rm.swp l i j) :=
  (h.st i hi (rd l j)).st j hj (rd l i)
end Go.Proofs.Ytgcjangnlbhicaa.St
