/- append of readings, maybe none, onto a row of the call's own; a row that came in, later. -/
import Derived.Test.YtagodfielmdfhaaGreatDoorRtW
namespace Go.Proofs.YtagodfielmdfhaaGreatDoor.Rt
open Go.ChangeShapes Go.WideShapes Go.RowKit Wo Un Rg Go.MapKept Sr
open Rm (Rp tm vl)
open Wi (add_row)
set_option linter.unusedVariables false
theorem run_app_nil (w : World) (ty : TypeId) (a : Option Addr) (n c : Nat) (h : n ≤ c) : (Builtin.append_ #[25, 25] ty #[.slice a n c, .slice none 0 0]).run Tryz.prog w = .ok (.slice a n c) w := by
  have t1 := Tryz.underlying25
  unfold Builtin.append_
  cases a <;> simp [go_sem, run_underlying t1, Result.andThen, h]
theorem rs_news {w : World} {g m : Nat} {q : List Rp} (hz : Zr w (some ⟨g, 0, none⟩) m q) : ∀ j u, (rs q)[j]? = some u → w.cell? ((⟨g, 0, none⟩ : Addr).add j) = some u := by
  intro j u hu
  have hj : j < q.length * 2 := by
    rcases Nat.lt_or_ge j (q.length * 2) with h | h
    · exact h
    · rw [List.getElem?_eq_none (by rw [rs_len]; exact h)] at hu; cases hu
  have hm := hz.1
  obtain ⟨c1, c2⟩ := hz.at (j / 2) (by omega)
  obtain ⟨e1, e2⟩ := rs_at q (j / 2) (by omega)
  rw [add_row]
  rcases (by omega : j = j / 2 * 2 ∨ j = j / 2 * 2 + 1) with h | h
  · rw [h] at hu ⊢
    rw [e1] at hu; cases hu; exact c1
  · rw [h] at hu ⊢
    rw [e2] at hu; cases hu; exact c2
theorem rs_one (q : List Rp) : ∀ u ∈ rs q, u.oneCell' = true := by
  intro u hu
  unfold rs at hu
  rw [List.mem_flatMap] at hu
  obtain ⟨p, _, hp⟩ := hu
  simp at hp
  rcases hp with rfl | rfl <;> rfl
def Nn (A : Option Addr) (m c : Nat) : Prop := (∃ g, A = some ⟨g, 0, none⟩) ∨ A = none ∧ m = 0 ∧ c = 0
theorem own_zr2 {w : World} {base k : Nat} {v : Value} {l : List Rp} (hr : w.ownsRow base 48 2 v k (rs l)) (hk : l.length = k) : ∃ A c, v = .slice A k c ∧ Zr w A k l ∧ Nn A k c ∧ k ≤ c := by
  rcases hr.2 with ⟨rfl, rfl⟩ | ⟨g, cap, cur, rfl, hb, hg, h1, rest⟩
  · exact ⟨none, 0, rfl, ⟨hk, fun h => by omega⟩, .inr ⟨rfl, rfl, rfl⟩, Nat.le_refl _⟩
  · refine ⟨_, cap, rfl, ⟨hk, fun hn => ⟨_, rfl, (hr.lt g rfl).2, fun j hj => ?_⟩⟩, .inl ⟨g, rfl⟩, h1⟩
    have e := rs_at l j (by omega)
    have h1 := hr.cells (g := g) rfl _ _ e.1
    have h2 := hr.cells (g := g) rfl _ _ e.2
    rw [add_row] at h1 h2
    exact ⟨h1, h2⟩
theorem run_appx (w : World) (ty : TypeId) (base : Nat) (v : Value) (n : Nat) (l : List Rp) (hown : w.ownsRow base 48 2 v n (rs l)) (A : Option Addr) (m c : Nat) (q : List Rp) (hz : Zr w A m q) (hA : Nn A m c) (hn : n + m ≤ 100000) (hbase : base ≤ w.heap.size) :
    ∃ v' w', (Builtin.append_ #[25, 25] ty #[v, .slice A m c]).run Tryz.prog w = .ok v' w' ∧ w'.ownsRow base 48 2 v' (n + m) (rs (l ++ q)) ∧ w.grownBy w' v.ownBlock := by
  rcases hA with ⟨g, rfl⟩ | ⟨rfl, rfl, rfl⟩
  · obtain ⟨i0, hi0, hz0, hz1, hz2⟩ := info_parts info_reading
    obtain ⟨v', w', hr, h2, h3, _, h5⟩ := run_append_own_at (P := Tryz.prog) w base 25 ty 48 i0 (.agg #[.int .i64 0, .int .i64 0]) 2 16 Tryz.underlying25 hi0 hz0 hz1 hz2 (by rfl) (by omega) v n (rs l) hown ⟨g, 0, none⟩ m c (rs q) (by rw [rs_len, hz.1]) (rs_news hz) (rs_one q) (by unfold maxLen; omega) (by omega) hbase
    exact ⟨v', w', hr, by rw [rs_app]; exact h2, h3⟩
  · obtain ⟨B, cb, rfl, hle⟩ : ∃ B cb, v = .slice B n cb ∧ n ≤ cb := by
      rcases hown.2 with ⟨rfl, rfl⟩ | ⟨g, cap, cur, rfl, hb, hg, h1, rest⟩
      · exact ⟨none, 0, rfl, Nat.le_refl _⟩
      · exact ⟨_, cap, rfl, h1⟩
    have hq : q = [] := List.length_eq_zero_iff.1 hz.1
    subst hq
    exact ⟨_, w, run_app_nil w ty B n cb hle, by rw [List.append_nil]; exact hown, World.grownBy.refl _ _⟩
theorem list_appx (w : World) {ops : Array Oper} {rest : List Oper} {o : Oper} {a : Act} {Q : Exit → Act → World → Prop} (s x : Operand)
    (ho : o.op = .call { callee := .builtin .append, args := #[s, x], argTypes := #[25, 25] })
    (base : Nat) (v : Value) (n : Nat) (l : List Rp) (hw : Region.wanted o (yielded ops a.tmps) = true) (hs : a.eval s = v) (hown : w.ownsRow base 48 2 v n (rs l)) (A : Option Addr) (m c : Nat) (q : List Rp) (hx : a.eval x = .slice A m c) (hz : Zr w A m q) (hA : Nn A m c) (hn : n + m ≤ 100000) (hbase : base ≤ w.heap.size)
    (h : ∀ v' w', w'.ownsRow base 48 2 v' (n + m) (rs (l ++ q)) → w.grownBy w' v.ownBlock → wpList Tryz.prog ops Q rest (a.put o.dst v') w') : wpList Tryz.prog ops Q (o :: rest) a w := by
  obtain ⟨v', w', hr, h2, h3⟩ := run_appx w o.type base v n l hown A m c q hz hA hn hbase
  unfold wpList
  rw [if_pos hw]
  refine .inl ?_
  unfold Oper.wp execOp
  simp only [ho, resolve, invoke, builtin, Sem.run_bind, Sem.run_pure, Result.andThen_ok, List.map_toArray, List.map_cons, List.map_nil, hs, hx, hr]
  exact h v' w' h2 h3
theorem own_empty (W : World) (b : Nat) (hb : b ≤ W.heap.size) : (W.alloc (.cells #[] 48)).ownsRow b 48 2 (.slice (some ⟨W.heap.size, 0, none⟩) 0 0) 0 (rs []) :=
  ⟨by rfl, .inr ⟨W.heap.size, 0, #[], rfl, hb, heap_alloc_new W _, Nat.le_refl _, by simp, by simp [rs]⟩⟩
theorem run_wrong {l : List Rp} (h : Vrs l) (hl : l.length ≤ 400) (b t : List UInt8) (hb : (10 : UInt8) ∉ b) (hne : ¬ (b = [] ∨ b.head? = some 35)) {er : Int} (he : (lineS US2 b).2 = er) (h0 : er ≠ 0) :
    run US2 (lns (ft l ++ b ++ [10] ++ t)) 1 [] = ([], l.length + 1, er) := by
  rw [show ft l ++ b ++ [10] ++ t = ft l ++ (b ++ 10 :: t) by simp, lns_ft, lns_line _ _ hb, run_ft US2 us2_raw l _ _ _ h (by simp; omega), run_bad US2 _ _ _ _ hne (by rw [he]; exact h0), he, Nat.add_comm]
/-- a row that came in, later -/
theorem row_later {A : Option Addr} {len cap : Nat} {zs : List Int} {w w' : World} (hb : Bel w w')
    (h : (A = none ∧ len = 0 ∧ cap = 0 ∧ zs = []) ∨ ∃ x, A = some x ∧ len ≤ cap ∧ cap ≤ maxLen ∧ zs.length = cap ∧ (∀ i, i < zs.length → w.cell? (x.add i) = some (.int .i64 (zs.getD i 0))) ∧ ∀ n ∈ zs, (Lit.int .i64 n).wf = true) :
    (A = none ∧ len = 0 ∧ cap = 0 ∧ zs = []) ∨ ∃ x, A = some x ∧ len ≤ cap ∧ cap ≤ maxLen ∧ zs.length = cap ∧ (∀ i, i < zs.length → w'.cell? (x.add i) = some (.int .i64 (zs.getD i 0))) ∧ ∀ n ∈ zs, (Lit.int .i64 n).wf = true := by
  rcases h with h | ⟨x, h1, h2, h3, h4, h5, h6⟩
  · exact .inl h
  · exact .inr ⟨x, h1, h2, h3, h4, fun i hi => hb.kp (h5 i hi), h6⟩
theorem tab_bel {w w' : World} (h : Lr w) (hb : Bel w w') : Itab w' := (h.bel hb).1
end Go.Proofs.YtagodfielmdfhaaGreatDoor.Rt
