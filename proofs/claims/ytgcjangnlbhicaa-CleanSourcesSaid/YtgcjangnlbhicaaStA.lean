/- Parts of rows of readings: appends of them, slices.Clone, limits.Readings. -/
import Derived.Test.YtgcjangnlbhicaaStW
import Derived.Maps.AppendAt
namespace Go.Proofs.Ytgcjangnlbhicaa.St
open Go.ChangeShapes Go.WideShapes Go.RowKit Wo Sr Wi Rm Rg
set_option linter.unusedVariables false
/-- a part of a row that reads as these readings -/
def Zo (w : World) (A : Option Addr) (n : Nat) (l : List Rp) : Prop := l.length = n ∧ (0 < n → ∃ g o : Nat, A = some ⟨g, o, none⟩ ∧ g < w.heap.size ∧ ∀ j, j < n → w.cell? ⟨g, o + j * 2, none⟩ = some (.int .i64 (tm l j)) ∧ w.cell? ⟨g, o + j * 2 + 1, none⟩ = some (.int .i64 (vl l j)))
theorem Zo.bel {w w' : World} {A : Option Addr} {n : Nat} {l : List Rp} (h : Zo w A n l) (hb : Bel w w') : Zo w' A n l :=
  ⟨h.1, fun hn => by
    obtain ⟨g, o, e, hx, hc⟩ := h.2 hn
    exact ⟨g, o, e, by have := hb.size; omega, fun j hj => ⟨hb.kp (hc j hj).1, hb.kp (hc j hj).2⟩⟩⟩
theorem Zr.zo {w : World} {A : Option Addr} {n : Nat} {l : List Rp} (h : Zr w A n l) : Zo w A n l := ⟨h.1, fun hn => by
  obtain ⟨g, e, hx, hc⟩ := h.2 hn
  exact ⟨g, 0, e, hx, fun j hj => by rw [Nat.zero_add]; exact hc j hj⟩⟩
/-- an address, or nothing at all -/
def Nz (A : Option Addr) (n c : Nat) : Prop := (∃ ad, A = some ad) ∨ A = none ∧ n = 0 ∧ c = 0
theorem run_app_nil (w : World) (ty : TypeId) (a : Option Addr) (n c : Nat) (h : n ≤ c) : (Builtin.append_ #[23, 23] ty #[.slice a n c, .slice none 0 0]).run Try.prog w = .ok (.slice a n c) w := by
  have t1 := Try.underlying23
  unfold Builtin.append_
  cases a <;> simp [go_sem, run_underlying t1, Result.andThen, h]
theorem run_app_zero (w : World) (ty : TypeId) (a : Option Addr) (n c : Nat) (h : n ≤ c) (ad : Addr) (d : Nat) : (Builtin.append_ #[23, 23] ty #[.slice a n c, .slice (some ad) 0 d]).run Try.prog w = .ok (.slice a n c) w := by
  have t1 := Try.underlying23
  obtain ⟨i0, hi0, hz0, hz1, hz2⟩ := info_parts info_reading
  unfold Builtin.append_
  cases a <;> simp [go_sem, run_underlying t1, Result.andThen, h, sizeOf, typeInfo, hi0, Builtin.lenOf, Builtin.firstCells, storeCells]
theorem rs_news {w : World} {g o m : Nat} {q : List Rp} (hz : Zo w (some ⟨g, o, none⟩) m q) : ∀ j u, (rs q)[j]? = some u → w.cell? ((⟨g, o, none⟩ : Addr).add j) = some u := by
  intro j u hu
  have hj : j < q.length * 2 := by
    rcases Nat.lt_or_ge j (q.length * 2) with h | h
    · exact h
    · rw [List.getElem?_eq_none (by rw [rs_len]; exact h)] at hu; cases hu
  have hm := hz.1
  obtain ⟨g', o', e, _, hc⟩ := hz.2 (by omega)
  cases e
  obtain ⟨c1, c2⟩ := hc (j / 2) (by omega)
  obtain ⟨e1, e2⟩ := rs_at q (j / 2) (by omega)
  have ea : (⟨g, o, none⟩ : Addr).add j = ⟨g, o + j, none⟩ := by unfold Addr.add; split <;> simp_all
  rw [ea]
  rcases (by omega : j = j / 2 * 2 ∨ j = j / 2 * 2 + 1) with h | h
  · rw [h] at hu ⊢
    rw [e1] at hu; cases hu; exact c1
  · rw [h] at hu ⊢
    rw [e2] at hu; cases hu; exact c2
theorem rs_one (q : List Rp) : ∀ u ∈ rs q, u.oneCell' = true := by
  intro u hu
  unfold rs at hu
  rw [List.mem_flatMap] at hu
  obtain ⟨p, _, hp⟩ := hu
  simp at hp
  rcases hp with rfl | rfl <;> rfl
theorem own_some {w : World} {base n : Nat} {v : Value} {l : List Rp} (h : w.ownsRow base 28 2 v n (rs l)) (hl : l.length = n) :
    (v = .slice none 0 0 ∧ n = 0 ∧ l = []) ∨ ∃ g c, v = .slice (some ⟨g, 0, none⟩) n c ∧ n ≤ c ∧ base ≤ g ∧ Rw w g n l := by
  rcases h.2 with ⟨e, h0⟩ | ⟨g, cap, cur, rfl, hb, hg, h1, _⟩
  · exact .inl ⟨e, h0, List.length_eq_zero_iff.1 (by omega)⟩
  · refine .inr ⟨g, cap, rfl, h1, hb, hl, (h.lt g rfl).2, fun j hj => ?_⟩
    have e := rs_at l j (by omega)
    have h1 := h.cells (g := g) rfl _ _ e.1
    have h2 := h.cells (g := g) rfl _ _ e.2
    rw [add_row] at h1 h2
    exact ⟨h1, h2, Lib.frozen_of_heap hg _, Lib.frozen_of_heap hg _⟩
theorem run_appo (w : World) (ty : TypeId) (base : Nat) (v : Value) (n : Nat) (l : List Rp) (hown : w.ownsRow base 28 2 v n (rs l)) (A : Option Addr) (m c : Nat) (q : List Rp) (hz : Zo w A m q) (hA : Nz A m c) (hn : n + m ≤ 100000) (hbase : base ≤ w.heap.size) :
    ∃ v' w', (Builtin.append_ #[23, 23] ty #[v, .slice A m c]).run Try.prog w = .ok v' w' ∧ w'.ownsRow base 28 2 v' (n + m) (rs (l ++ q)) ∧ w.grownBy w' v.ownBlock := by
  obtain ⟨B, cb, rfl, hle⟩ : ∃ B cb, v = .slice B n cb ∧ n ≤ cb := by
    rcases hown.2 with ⟨rfl, rfl⟩ | ⟨g, cap, cur, rfl, hb, hg, h1, rest⟩
    · exact ⟨none, 0, rfl, Nat.le_refl _⟩
    · exact ⟨_, cap, rfl, h1⟩
  rcases Nat.eq_zero_or_pos m with h0 | h0
  · subst h0
    have hq : q = [] := List.length_eq_zero_iff.1 hz.1
    subst hq
    refine ⟨_, w, ?_, by rw [List.append_nil]; exact hown, World.grownBy.refl _ _⟩
    rcases hA with ⟨ad, rfl⟩ | ⟨rfl, _, rfl⟩
    · exact run_app_zero w ty B n cb hle ad c
    · exact run_app_nil w ty B n cb hle
  · obtain ⟨g, o, rfl, _, _⟩ := hz.2 h0
    obtain ⟨i0, hi0, hz0, hz1, hz2⟩ := info_parts info_reading
    obtain ⟨v', w', hr, h2, h3, _, h5⟩ := run_append_own_at (P := Try.prog) w base 23 ty 28 i0 (.agg #[.int .i64 0, .int .i64 0]) 2 16 Try.underlying23 hi0 hz0 hz1 hz2 (by rfl) (by omega) (.slice B n cb) n (rs l) hown ⟨g, o, none⟩ m c (rs q) (by rw [rs_len, hz.1]) (rs_news hz) (rs_one q) (by unfold maxLen; omega) (by omega) hbase
    exact ⟨v', w', hr, by rw [rs_app]; exact h2, h3⟩
theorem list_appo (w : World) {ops : Array Oper} {rest : List Oper} {o : Oper} {a : Act} {Q : Exit → Act → World → Prop} (hgd : o.guard = none) (s x : Operand)
    (ho : o.op = .call { callee := .builtin .append, args := #[s, x], argTypes := #[23, 23] })
    (base : Nat) (v : Value) (n : Nat) (l : List Rp) (hs : a.eval s = v) (hown : w.ownsRow base 28 2 v n (rs l)) (A : Option Addr) (m c : Nat) (q : List Rp) (hx : a.eval x = .slice A m c) (hz : Zo w A m q) (hA : Nz A m c) (hn : n + m ≤ 100000) (hbase : base ≤ w.heap.size)
    (h : ∀ v' w', w'.ownsRow base 28 2 v' (n + m) (rs (l ++ q)) → w.grownBy w' v.ownBlock → wpList Try.prog ops Q rest (a.put o.dst v') w') : wpList Try.prog ops Q (o :: rest) a w := by
  obtain ⟨v', w', hr, h2, h3⟩ := run_appo w o.type base v n l hown A m c q hz hA hn hbase
  refine wpList_plain hgd fun _ hK => ?_
  unfold Oper.wp execOp
  simp only [ho, resolve, invoke, builtin, Sem.run_bind, Sem.run_pure, Result.andThen_ok, List.map_toArray, List.map_cons, List.map_nil, hs, hx, hr]
  exact hK _ _ (h v' w' h2 h3)
theorem own_empty (W : World) (b q : Nat) (hq : W.heap.size = q) (hb : b ≤ q) : (W.alloc (.cells #[] 28)).ownsRow b 28 2 (.slice (some ⟨q, 0, none⟩) 0 0) 0 (rs []) := by
  subst hq
  exact ⟨by rfl, .inr ⟨W.heap.size, 0, #[], rfl, hb, heap_alloc_new W _, Nat.le_refl _, by simp, by simp [rs]⟩⟩
def SomeRs (n : Nat) (l : List Rp) (w : World) (e : Ending) (w' : World) : Prop := ∃ v, e = .returned v ∧ w'.ownsRow w.heap.size 28 2 v n (rs l) ∧ Bel w w'
set_option maxHeartbeats 2000000 in
theorem clone_none (w : World) : Calls Try.prog 37 #[.slice none 0 0] w (SomeRs 0 [] w) := by
  have en : ∀ (w : World) (a : Option Addr) (n c n' c' : Nat), (binOp .eql 23 (.slice a n c) (.slice none n' c')).run Try.prog w = .ok (.bool a.isNone) w := fun w a n c n' c' => Lib.run_eql_slice_nil w _ _ a n c n' c' Try.underlying23
  go_enter Try.func37, Try.ntmps37
  go_wp2
  go_ret
  exact ⟨_, rfl, World.ownsRow_nil _ _ _ _, Bel.rf⟩
set_option maxHeartbeats 2000000 in
theorem clone_some (ad : Addr) (c n : Nat) (l : List Rp) (hn : n ≤ 100000) (w : World) (hz : Zo w (some ad) n l) :
    Calls Try.prog 37 #[.slice (some ad) n c] w (SomeRs n l w) := by
  have HZ : Hid (Zo (w.alloc (.cells #[] 28)) (some ad) n l) := hz.bel (Bel.rf.al _)
  have en : ∀ (w : World) (a : Option Addr) (n c n' c' : Nat), (binOp .eql 23 (.slice a n c) (.slice none n' c')).run Try.prog w = .ok (.bool a.isNone) w := fun w a n c n' c' => Lib.run_eql_slice_nil w _ _ a n c n' c' Try.underlying23
  have HO := Lib.hid (own_empty w w.heap.size w.heap.size rfl (Nat.le_refl _))
  clear hz
  go_enter Try.func37, Try.ntmps37
  go_wp2_with (at_builtin; refine list_appo _ rfl (.tmp 5) (.tmp 6) rfl w.heap.size (.slice (some ⟨w.heap.size, 0, none⟩) 0 0) 0 [] rfl HO.out (some ad) n c l rfl HZ.out (.inl ⟨_, rfl⟩) (by omega) (by simp) ?_; intro v' w2 h2 h3; rw [Nat.zero_add, List.nil_append] at h2; have hb2 : Bel w w2 := Below.grown (Bel.rf.al _) h3 (Bel.rf.al _).size (fun q e => by cases e; exact Nat.le_refl _))
  go_ret
  exact ⟨_, rfl, h2, hb2⟩
theorem clone_any (A : Option Addr) (c n : Nat) (l : List Rp) (hn : n ≤ 100000) (w : World) (hz : Zo w A n l) (hA : Nz A n c) :
    Calls Try.prog 37 #[.slice A n c] w (SomeRs n l w) := by
  rcases hA with ⟨ad, rfl⟩ | ⟨rfl, rfl, rfl⟩
  · exact clone_some ad c n l hn w hz
  · have hq : l = [] := List.length_eq_zero_iff.1 hz.1
    subst hq
    exact clone_none w
set_option maxHeartbeats 4000000 in
theorem readings_zo (A : Option Addr) (c n : Nat) (l : List Rp) (hn : n ≤ 2000) (hs : Vrs l) (w : World) (h : Zo w A n l) :
    Calls Try.prog 22 #[.slice A n c] w fun e w' => e = .returned (.int .i64 0) ∧ Bel w w' := by
  have H1 := Lib.hid h
  have HS := Lib.hid hs
  have ni : (n : Int) ≤ 2000 := by omega
  clear h hs
  go_enter Try.func22, Try.ntmps22
  go_wp2
  go_loopw [10] (fun s7 wr => ∃ (k : Nat) (V : World), V = wr ∧ k ≤ n ∧ s7 = .int .i64 (k : Int) ∧ Bel w wr) (fun s7 _ => n - (intOf s7).toNat)
  case atStart => exact ⟨0, _, rfl, by omega, rfl, Bel.rf⟩
  case round =>
    obtain ⟨k, wr, hwr, hk, rfl, hb⟩ := hrel
    subst hwr
    have HB := Lib.hid hb
    rcases Nat.lt_or_ge k n with hlt | hge
    · obtain ⟨g, o, rfl, hab, hac⟩ := (H1.out.bel hb).2 (by omega)
      obtain ⟨c1, c2⟩ := hac k hlt
      have hx := HS.out k (by rw [H1.out.1]; exact hlt)
      obtain ⟨x, hxe⟩ : ∃ x, tm l k = x := ⟨_, rfl⟩
      obtain ⟨y, hye⟩ : ∃ x, vl l k = x := ⟨_, rfl⟩
      rw [hxe] at c1 hx
      rw [hye] at c2 hx
      have HX := Lib.hid hx
      have ki : (k : Int) < (n : Int) := by omega
      clear hb hac hab hxe hye hx
      go_wp2_with (go_at_call 36; refine (reading_ok x y HX.out _).mono ?_; rintro e w' ⟨rfl, hbr⟩)
      go_roundw
      case rel => exact ⟨k + 1, _, rfl, by omega, by go_num, by first | exact HB.out.tr hbr | exact (HB.out.drwN _).tr hbr | exact HB.out.drw.tr hbr | exact ((HB.out.al _).drwN _).tr hbr | exact (HB.out.al _).tr hbr⟩
      case measure => simp [intOf]; omega
    · obtain rfl : k = n := by omega
      clear hb
      go_wp2
      go_ret
      exact ⟨rfl, HB.out⟩
end Go.Proofs.Ytgcjangnlbhicaa.St
