/- shapesearchref07.Times: plain facts, appends of any list. -/
import Derived.Test.YtgcjangnlbhicaaStZ
import Derived.Deep.RegionLaw
import Derived.Maps.AppendAt
import Derived.Lib.AppendZeros
namespace Go.Proofs.Ytgcjangnlbhicaa.St
open Go.ChangeShapes Go.WideShapes Go.RowKit Wo Sr Wi Rm Rg
set_option linter.unusedVariables false
theorem ins_at (t : Int) : ∀ (L : List Int) (a : Nat), a ≤ L.length → (∀ j, j < a → L.getD j 0 < t) → (a < L.length → ¬ L.getD a 0 < t) → ins t L = if a < L.length ∧ L.getD a 0 = t then L else L.take a ++ (t :: L.drop a)
  | [], a, ha, _, _ => by
    have : a = 0 := by simpa using ha
    subst this
    simp [ins]
  | x :: L, 0, _, _, h2 => by
    have h2 : ¬ x < t := h2 (by simp)
    show (if t < x then t :: x :: L else if t = x then x :: L else x :: ins t L) = if 0 < (x :: L).length ∧ x = t then x :: L else t :: x :: L
    by_cases h : x = t
    · rw [if_neg (by omega), if_pos h.symm, if_pos ⟨by simp, h⟩]
    · rw [if_pos (by omega), if_neg (fun k => h k.2)]
  | x :: L, a + 1, ha, h1, h2 => by
    have h0 : x < t := h1 0 (by omega)
    have ih := ins_at t L a (by simpa using ha) (fun j hj => by simpa using h1 (j + 1) (by omega)) (fun hj => by simpa using h2 (by simpa using hj))
    show (if t < x then t :: x :: L else if t = x then x :: L else x :: ins t L) = _
    rw [if_neg (by omega), if_neg (by omega), ih]
    by_cases h : a < L.length ∧ L.getD a 0 = t
    · rw [if_pos h, if_pos (by simpa using h)]
    · rw [if_neg h, if_neg (by simpa using h)]; rfl
theorem uts_snoc {l : List Rp} {i : Nat} (h : i < l.length) : uts (l.take (i + 1)) = ins (tm l i) (uts (l.take i)) := asc_one _ _ (uts_asc _) (asc_ins _ _ (uts_asc _)) fun x => by
  have e : l[i]? = some (rd l i) := by unfold rd; rw [List.getD_eq_getElem?_getD, List.getElem?_eq_getElem h]; rfl
  rw [mem_ins, mem_uts, mem_uts, List.take_add_one, e]
  constructor
  · rintro ⟨p, hp, e⟩
    rcases List.mem_append.1 hp with hp | hp
    · exact .inr ⟨p, hp, e⟩
    · have e2 : p = rd l i := by simpa using hp
      subst e2
      exact .inl e.symm
  · rintro (e | ⟨p, hp, e⟩)
    · exact ⟨rd l i, List.mem_append.2 (.inr (by simp)), e.symm⟩
    · exact ⟨p, List.mem_append.2 (.inl hp), e⟩
theorem zs_onet (M : List Int) : ∀ u ∈ zs M, u.oneCell' = true := by
  intro u hu
  obtain ⟨x, _, rfl⟩ := List.mem_map.1 hu
  rfl
theorem zi_newst {w : World} {ad : Addr} {m : Nat} {M : List Int} (hz : Zi w (some ad) m M) : ∀ j u, (zs M)[j]? = some u → w.cell? (ad.add j) = some u := by
  intro j u hu
  have hj : j < M.length := by
    rcases Nat.lt_or_ge j M.length with h | h
    · exact h
    · rw [List.getElem?_eq_none (by rw [zs_len]; exact h)] at hu; cases hu
  obtain ⟨ad', e, _, hcc⟩ := hz.2 (by have := hz.1; omega)
  cases e
  rw [zs_at hj] at hu
  cases hu
  exact hcc j (by have := hz.1; omega)
theorem info_intt : (Try.prog.info? 3).map (fun i => (i.zero, i.size, i.bytes)) = some (some (.int .i64 0), 1, 8) := by kernel_rfl
theorem run_apt (w : World) (ty : TypeId) (base : Nat) (v : Value) (n : Nat) (L : List Int) (hown : w.ownsRow base 3 1 v n (zs L)) (A : Option Addr) (m c : Nat) (M : List Int) (hz : Zi w A m M) (hn : n + m ≤ 1000000) (hbase : base ≤ w.heap.size) :
    ∃ v' w', (Builtin.append_ #[22, 22] ty #[v, .slice A m c]).run Try.prog w = .ok v' w' ∧ w'.ownsRow base 3 1 v' (n + m) (zs (L ++ M)) ∧ w.grownBy w' v.ownBlock := by
  obtain ⟨i0, hi0, hz0, hz1, hz2⟩ := info_parts info_intt
  rcases A with _ | ad
  · have hm : m = 0 := by
      rcases Nat.eq_zero_or_pos m with h | h
      · exact h
      · obtain ⟨ad, e, _⟩ := hz.2 h; cases e
    subst hm
    have hM : M = [] := List.eq_nil_of_length_eq_zero hz.1
    subst hM
    refine ⟨v, w, ?_, by simpa using hown, World.grownBy.refl _ _⟩
    rcases hown.2 with ⟨rfl, rfl⟩ | ⟨g, cap, cur, rfl, _, _, hnc, _⟩
    · simp [Builtin.append_, run_underlying Try.underlying22, sizeOf, typeInfo, hi0, Builtin.lenOf, Builtin.firstCells]
    · simp [Builtin.append_, run_underlying Try.underlying22, sizeOf, typeInfo, hi0, Builtin.lenOf, Builtin.firstCells, hnc, storeCells]
  · obtain ⟨v', w', hr, h2, h3, _, h5⟩ := run_append_own_at (P := Try.prog) w base 22 ty 3 i0 (.int .i64 0) 1 8 Try.underlying22 hi0 hz0 hz1 hz2 (by rfl) (by omega) v n (zs L) hown ad m c (zs M) (by rw [zs_len, hz.1]; omega) (zi_newst hz) (zs_onet M) (by unfold maxLen; omega) (by omega) hbase
    exact ⟨v', w', hr, by rw [zs_app]; exact h2, h3⟩
theorem step_apt (w : World) {ops : Array Oper} {o : Oper} {a : Act} {K : Act → World → Prop} {Q : Exit → Act → World → Prop} {E : Prop} (hgd : o.guard = none) (s x : Operand)
    (ho : o.op = .call { callee := .builtin .append, args := #[s, x], argTypes := #[22, 22] })
    (base : Nat) (v : Value) (n : Nat) (L : List Int) (hs : a.eval s = v) (hown : w.ownsRow base 3 1 v n (zs L)) (A : Option Addr) (m c : Nat) (M : List Int) (hx : a.eval x = .slice A m c) (hz : Zi w A m M) (hn : n + m ≤ 1000000) (hbase : base ≤ w.heap.size)
    (h : ∀ v' w', w'.ownsRow base 3 1 v' (n + m) (zs (L ++ M)) → w.grownBy w' v.ownBlock → K (a.put o.dst v') w') :
    if Region.wanted o (yielded ops a.tmps) = true then Oper.wp Try.prog o a w K Q else E := by
  have hw : Region.wanted o (yielded ops a.tmps) = true := by simp [Region.wanted, hgd]
  rw [if_pos hw]
  obtain ⟨v', w', hr, h2, h3⟩ := run_apt w o.type base v n L hown A m c M hz hn hbase
  unfold Oper.wp execOp
  simp only [ho, resolve, invoke, builtin, Sem.run_bind, Sem.run_pure, Result.andThen_ok, List.map_toArray, List.map_cons, List.map_nil, hs, hx, hr]
  exact h v' w' h2 h3
theorem own_madet {base : Nat} (W : World) (q : Nat) (hq : W.heap.size = q) (hb : base ≤ q) : (W.alloc (.cells #[] 3)).ownsRow base 3 1 (.slice (some ⟨q, 0, none⟩) 0 0) 0 (zs []) := by
  subst hq
  exact World.ownsRow_made (base := base) (e := 3) (size := 1) W #[] 0 hb (by unfold maxLen; omega) rfl
theorem zi_nonet {W : World} {A : Option Addr} : Zi W A 0 [] := ⟨rfl, fun h => by omega⟩
theorem zi_frt {w : World} {A : Option Addr} {N : Nat} {Z : List Int} (hz : Zi w A N Z) (n : Nat) (hn : n ≤ N) : Zi w A n (Z.take n) := by
  have hl := hz.1
  refine ⟨by simp; omega, fun h0 => ?_⟩
  obtain ⟨ad, e, hx, hc⟩ := hz.2 (by omega)
  refine ⟨ad, e, hx, fun j hj => ?_⟩
  rw [hc j (by omega)]
  simp [List.getD_eq_getElem?_getD, hj]
theorem zi_bkt {w : World} {g N : Nat} {Z : List Int} (hz : Zi w (some ⟨g, 0, none⟩) N Z) (i : Nat) (hi : i ≤ N) : Zi w (some ⟨g, i, none⟩) (N - i) (Z.drop i) := by
  have hl := hz.1
  refine ⟨by simp; omega, fun hn => ?_⟩
  obtain ⟨ad, e, hx, _⟩ := hz.2 (by omega)
  cases e
  refine ⟨_, rfl, hx, fun j hj => ?_⟩
  have := hz.at (i + j) (by omega)
  rw [show (⟨g, i, none⟩ : Addr).add j = ⟨g, i + j, none⟩ by unfold Addr.add; split <;> simp_all, this]
  simp [List.getD_eq_getElem?_getD]
theorem zi_1t {W : World} {g : Nat} {x : Int} (hb : Bk W g 3 #[.int .i64 x]) : Zi W (some ⟨g, 0, none⟩) 1 [x] := zi_bk (L := [x]) hb 1 rfl
/-- how a row of the call's own is written -/
def Ns (B : Option Addr) (k c : Nat) : Prop := (B = none ∧ k = 0 ∧ c = 0) ∨ ∃ g, B = some ⟨g, 0, none⟩ ∧ k ≤ c
theorem own_ns {w : World} {base k : Nat} {v : Value} {L : List Int} (h : w.ownsRow base 3 1 v k (zs L)) (hk : L.length = k) : ∃ B c, v = .slice B k c ∧ Zi w B k L ∧ Ns B k c := by
  rcases h.2 with ⟨rfl, h0⟩ | ⟨g, cap, cur, rfl, hb, hg, h1, _⟩
  · subst h0
    have : L = [] := List.eq_nil_of_length_eq_zero hk
    subst this
    exact ⟨none, 0, rfl, zi_nonet, .inl ⟨rfl, rfl, rfl⟩⟩
  · refine ⟨_, cap, rfl, own_zi h hk, .inr ⟨g, rfl, h1⟩⟩
theorem bk_grt {W W' : World} {g : Nat} {t : TypeId} {cs : Array Value} {row : Option Nat} (h : Bk W g t cs) (hg : W.grownBy W' row) (hr : row ≠ some g) : Bk W' g t cs :=
  (hg.block g h.lt (fun e => hr e.symm)).trans h
theorem bel_grt {w a b : World} {row : Option Nat} (h : Bel w a) (hg : a.grownBy b row) (hr : ∀ q, row = some q → w.heap.size ≤ q) : Bel w b := Below.grown h hg h.size hr
def SomeTm (l : List Rp) (w : World) (e : Ending) (w' : World) : Prop := ∃ B c, e = .returned (.slice B (uts l).length c) ∧ Zi w' B (uts l).length (uts l) ∧ Bel w w'
end Go.Proofs.Ytgcjangnlbhicaa.St
