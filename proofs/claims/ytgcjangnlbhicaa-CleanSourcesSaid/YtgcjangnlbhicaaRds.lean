/- Rows of readings: how they read, appends onto them; limits.Reading, limits.Readings. -/
import Derived.Test.YtgcjangnlbhicaaZi0
import Derived.Test.YtgcjangnlbhicaaResMath
import Derived.Deep.RegionLaw
import Derived.Maps.AppendAt
import Derived.BigQuiet
namespace Go.Proofs.Ytgcjangnlbhicaa.Rg
open Go.ChangeShapes Go.WideShapes Go.RowKit Wo Sr Wi Rm
set_option linter.unusedVariables false
/-- readings, flat -/
def rs (l : List Rp) : List Value := l.flatMap fun p => [.int .i64 p.1, .int .i64 p.2]
theorem rs_cons (p : Rp) (l : List Rp) : rs (p :: l) = .int .i64 p.1 :: .int .i64 p.2 :: rs l := rfl
theorem rs_len (l : List Rp) : (rs l).length = l.length * 2 := by
  induction l with
  | nil => rfl
  | cons p l ih => rw [rs_cons, List.length_cons, List.length_cons, ih, List.length_cons]; omega
theorem rs_app (a b : List Rp) : rs (a ++ b) = rs a ++ rs b := by simp [rs]
theorem rs_at (l : List Rp) (i : Nat) (h : i < l.length) : (rs l)[i * 2]? = some (.int .i64 (tm l i)) ∧ (rs l)[i * 2 + 1]? = some (.int .i64 (vl l i)) := by
  induction l generalizing i with
  | nil => simp at h
  | cons p l ih =>
    rcases i with _ | i
    · exact ⟨rfl, rfl⟩
    · have := ih i (by simpa using h)
      rw [rs_cons, show (i + 1) * 2 = i * 2 + 1 + 1 by omega]
      simpa [tm, vl] using this
/-- a slice that reads as these readings -/
def Zr (w : World) (A : Option Addr) (n : Nat) (l : List Rp) : Prop := l.length = n ∧ (0 < n → ∃ g : Nat, A = some ⟨g, 0, none⟩ ∧ g < w.heap.size ∧ ∀ j, j < n → w.cell? ⟨g, j * 2, none⟩ = some (.int .i64 (tm l j)) ∧ w.cell? ⟨g, j * 2 + 1, none⟩ = some (.int .i64 (vl l j)))
theorem Zr.bel {w w' : World} {A : Option Addr} {n : Nat} {l : List Rp} (h : Zr w A n l) (hb : Bel w w') : Zr w' A n l :=
  ⟨h.1, fun hn => by
    obtain ⟨ad, e, hx, hc⟩ := h.2 hn
    exact ⟨ad, e, by have := hb.size; omega, fun j hj => ⟨hb.kp (hc j hj).1, hb.kp (hc j hj).2⟩⟩⟩
theorem Zr.at {w : World} {g n : Nat} {l : List Rp} (h : Zr w (some ⟨g, 0, none⟩) n l) (j : Nat) (hj : j < n) : w.cell? ⟨g, j * 2, none⟩ = some (.int .i64 (tm l j)) ∧ w.cell? ⟨g, j * 2 + 1, none⟩ = some (.int .i64 (vl l j)) := by
  obtain ⟨ad, e, _, hc⟩ := h.2 (by omega)
  cases e
  exact hc j hj
theorem Zr.ch {w w' : World} {A : Option Addr} {n g : Nat} {l : List Rp} (h : Zr w A n l) (hc : Ch g w w') (hn : ∀ k, A = some ⟨k, 0, none⟩ → k ≠ g) : Zr w' A n l :=
  ⟨h.1, fun h0 => by
    obtain ⟨ad, e, hx, hcc⟩ := h.2 h0
    exact ⟨ad, e, by have := hc.sz; omega, fun j hj => ⟨hc.kp (hcc j hj).1 (hn ad e), hc.kp (hcc j hj).2 (hn ad e)⟩⟩⟩
theorem zr_bk {w : World} {h : Nat} {t : TypeId} {l : List Rp} (hb : Bk w h t (rs l).toArray) (n : Nat) (hn : l.length = n) : Zr w (some ⟨h, 0, none⟩) n l := by
  subst hn
  refine ⟨rfl, fun _ => ⟨_, rfl, hb.lt, fun j hj => ?_⟩⟩
  have e := rs_at l j hj
  rw [hb.cell, hb.cell]
  simpa using e
theorem rrow_form {w : World} {base n : Nat} {v : Value} {l : List Rp} (h : w.ownsRow base 28 2 v n (rs l)) (hn : 0 < n) : ∃ g c, v = .slice (some ⟨g, 0, none⟩) n c ∧ n ≤ c ∧ base ≤ g := by
  rcases h.2 with ⟨_, h0⟩ | ⟨g, cap, cur, hv, hb, hg, h1, _⟩
  · omega
  · exact ⟨g, cap, hv, h1, hb⟩
theorem own_zr {w : World} {base k : Nat} {v : Value} {l : List Rp} (hr : w.ownsRow base 28 2 v k (rs l)) (hk : l.length = k) : ∃ A c, v = .slice A k c ∧ Zr w A k l := by
  rcases hr.2 with ⟨rfl, rfl⟩ | ⟨g, cap, cur, rfl, hb, hg, rest⟩
  · exact ⟨none, 0, rfl, hk, fun h => by omega⟩
  · refine ⟨_, cap, rfl, hk, fun hn => ⟨_, rfl, (hr.lt g rfl).2, fun j hj => ?_⟩⟩
    have e := rs_at l j (by omega)
    have h1 := hr.cells (g := g) rfl _ _ e.1
    have h2 := hr.cells (g := g) rfl _ _ e.2
    rw [add_row] at h1 h2
    exact ⟨h1, h2⟩
theorem info_reading : (Try.prog.info? 28).map (fun i => (i.zero, i.size, i.bytes)) = some (some (.agg #[.int .i64 0, .int .i64 0]), 2, 16) := by kernel_rfl
theorem wp_appr (w : World) {o : Oper} {a : Act} {K : Act → World → Prop} {Q : Exit → Act → World → Prop} (s x : Operand)
    (ho : o.op = .call { callee := .builtin .append, args := #[s, x], argTypes := #[23, 23] })
    (base : Nat) (v : Value) (n : Nat) (l : List Rp) (hs : a.eval s = v) (hown : w.ownsRow base 28 2 v n (rs l)) (g c : Nat) (p : Rp) (hx : a.eval x = .slice (some ⟨g, 0, none⟩) 1 c)
    (hM : Bk w g 28 #[.int .i64 p.1, .int .i64 p.2]) (hn : n ≤ 100000) (hbase : base ≤ w.heap.size)
    (h : ∀ v' w', w'.ownsRow base 28 2 v' (n + 1) (rs (l ++ [p])) → w.grownBy w' v.ownBlock → (v'.ownBlock = v.ownBlock ∨ v'.ownBlock = some w.heap.size) → K (a.put o.dst v') w') : o.wp Try.prog a w K Q := by
  obtain ⟨i0, hi0, hz0, hz1, hz2⟩ := info_parts info_reading
  obtain ⟨v', w', hr, h2, h3, _, h5⟩ := run_append_own_at (P := Try.prog) w base 23 o.type 28 i0 (.agg #[.int .i64 0, .int .i64 0]) 2 16 Try.underlying23 hi0 hz0 hz1 hz2 (by rfl) (by omega) v n (rs l) hown ⟨g, 0, none⟩ 1 c (rs [p]) (by rfl) (by
    intro j u hu
    rw [add_row, Bk.cell (t := 28) hM j]
    have e : rs [p] = [.int .i64 p.1, .int .i64 p.2] := rfl
    rw [e] at hu
    simpa using hu) (by intro u hu; simp [rs] at hu; rcases hu with rfl | rfl <;> rfl) (by unfold maxLen; omega) (by omega) hbase
  unfold Oper.wp execOp
  simp only [ho, resolve, invoke, builtin, Sem.run_bind, Sem.run_pure, Result.andThen_ok, List.map_toArray, List.map_cons, List.map_nil, hs, hx, hr]
  exact h v' w' (by rw [rs_app]; exact h2) h3 h5
/-- at a step of a region that draws its order -/
theorem step_appr (w : World) {ops : Array Oper} {o : Oper} {a : Act} {K : Act → World → Prop} {Q : Exit → Act → World → Prop} {E : Prop} (hgd : o.guard = none) (s x : Operand)
    (ho : o.op = .call { callee := .builtin .append, args := #[s, x], argTypes := #[23, 23] })
    (base : Nat) (v : Value) (n : Nat) (l : List Rp) (hs : a.eval s = v) (hown : w.ownsRow base 28 2 v n (rs l)) (g c : Nat) (p : Rp) (hx : a.eval x = .slice (some ⟨g, 0, none⟩) 1 c)
    (hM : Bk w g 28 #[.int .i64 p.1, .int .i64 p.2]) (hn : n ≤ 100000) (hbase : base ≤ w.heap.size)
    (h : ∀ v' w', w'.ownsRow base 28 2 v' (n + 1) (rs (l ++ [p])) → w.grownBy w' v.ownBlock → (v'.ownBlock = v.ownBlock ∨ v'.ownBlock = some w.heap.size) → K (a.put o.dst v') w') :
    if Region.wanted o (yielded ops a.tmps) = true then Oper.wp Try.prog o a w K Q else E := by
  have hw : Region.wanted o (yielded ops a.tmps) = true := by simp [Region.wanted, hgd]
  rw [if_pos hw]
  exact wp_appr w s x ho base v n l hs hown g c p hx hM hn hbase h
/-- at the list of a plain region -/
theorem list_appr (w : World) {ops : Array Oper} {rest : List Oper} {o : Oper} {a : Act} {Q : Exit → Act → World → Prop} (hgd : o.guard = none) (s x : Operand)
    (ho : o.op = .call { callee := .builtin .append, args := #[s, x], argTypes := #[23, 23] })
    (base : Nat) (v : Value) (n : Nat) (l : List Rp) (hs : a.eval s = v) (hown : w.ownsRow base 28 2 v n (rs l)) (g c : Nat) (p : Rp) (hx : a.eval x = .slice (some ⟨g, 0, none⟩) 1 c)
    (hM : Bk w g 28 #[.int .i64 p.1, .int .i64 p.2]) (hn : n ≤ 100000) (hbase : base ≤ w.heap.size)
    (h : ∀ v' w', w'.ownsRow base 28 2 v' (n + 1) (rs (l ++ [p])) → w.grownBy w' v.ownBlock → (v'.ownBlock = v.ownBlock ∨ v'.ownBlock = some w.heap.size) → wpList Try.prog ops Q rest (a.put o.dst v') w') : wpList Try.prog ops Q (o :: rest) a w :=
  wpList_plain hgd fun _ hK => wp_appr w s x ho base v n l hs hown g c p hx hM hn hbase fun v' w' h2 h3 h5 => hK _ _ (h v' w' h2 h3 h5)
/-- a valid reading -/
def Vr (t v : Int) : Prop := 0 ≤ t ∧ t ≤ 1099511627776 ∧ -1000 ≤ v ∧ v ≤ 1000
theorem reading_ok (t v : Int) (h : Vr t v) (w : World) : Calls Try.prog 36 #[.agg #[.int .i64 t, .int .i64 v]] w fun e w' => e = .returned (.bool true) ∧ Bel w w' := by
  obtain ⟨h1, h2, h3, h4⟩ := h
  go_enter Try.func36, Try.ntmps36
  go_wp2_with (go_at_call 43; refine (sample_ok v h3 h4 _).mono ?_; rintro e w' ⟨rfl, rfl⟩)
  go_ret
  exact ⟨rfl, by first | exact Bel.rf | exact Bel.rf.al _ | exact (Bel.rf.al _).drwN _⟩
def Vrs (l : List Rp) : Prop := ∀ i, i < l.length → Vr (tm l i) (vl l i)
set_option maxHeartbeats 4000000 in
theorem readings_ok (A : Option Addr) (c n : Nat) (l : List Rp) (hn : n ≤ 2000) (hs : Vrs l) (w : World) (h : Zr w A n l) :
    Calls Try.prog 22 #[.slice A n c] w fun e w' => e = .returned (.int .i64 0) ∧ Bel w w' := by
  have H1 := Lib.hid h
  have HS := Lib.hid hs
  have ni : (n : Int) ≤ 2000 := by omega
  clear h hs
  go_enter Try.func22, Try.ntmps22
  go_wp2
  go_loopw [10] (fun s7 wr => ∃ (k : Nat) (V : World), V = wr ∧ k ≤ n ∧ s7 = .int .i64 (k : Int) ∧ Bel w wr) (fun s7 _ => n - (intOf s7).toNat)
  case atStart => exact ⟨0, _, rfl, by omega, rfl, Bel.rf⟩
  case round =>
    obtain ⟨k, wr, hwr, hk, rfl, hb⟩ := hrel
    subst hwr
    have HB := Lib.hid hb
    rcases Nat.lt_or_ge k n with hlt | hge
    · obtain ⟨ad, rfl, hab, hac⟩ := (H1.out.bel hb).2 (by omega)
      obtain ⟨c1, c2⟩ := hac k hlt
      have hx := HS.out k (by rw [H1.out.1]; exact hlt)
      obtain ⟨x, hxe⟩ : ∃ x, tm l k = x := ⟨_, rfl⟩
      obtain ⟨y, hye⟩ : ∃ x, vl l k = x := ⟨_, rfl⟩
      rw [hxe] at c1 hx
      rw [hye] at c2 hx
      have HX := Lib.hid hx
      have ki : (k : Int) < (n : Int) := by omega
      clear hb hac hab hxe hye hx
      go_wp2_with (go_at_call 36; refine (reading_ok x y HX.out _).mono ?_; rintro e w' ⟨rfl, hbr⟩)
      go_roundw
      case rel => exact ⟨k + 1, _, rfl, by omega, by go_num, by first | exact HB.out.tr hbr | exact (HB.out.drwN _).tr hbr | exact HB.out.drw.tr hbr | exact ((HB.out.al _).drwN _).tr hbr | exact (HB.out.al _).tr hbr⟩
      case measure => simp [intOf]; omega
    · obtain rfl : k = n := by omega
      clear hb
      go_wp2
      go_ret
      exact ⟨rfl, HB.out⟩
end Go.Proofs.Ytgcjangnlbhicaa.Rg
