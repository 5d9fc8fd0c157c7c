/- append of lists of numbers, maybe empty ones, and lists that are scaled in place: for the laws of the layers 14 and 15. -/
import Derived.Test.YtabmpnmhjdbdmaaGreatDoorEdit1
import Derived.Deep.RegionLaw
import Derived.Maps.AppendAt
namespace Go.Proofs.YtabmpnmhjdbdmaaGreatDoor.Ed
open Go.ChangeShapes Go.WideShapes Go.RowKit Wo Sr Wi
set_option linter.unusedVariables false
theorem bel_grown {w a b : World} {row : Option Nat} (h : Bel w a) (hg : a.grownBy b row) (hr : ∀ q, row = some q → w.heap.size ≤ q) : Bel w b := Below.grown h hg h.size hr
theorem own_base {w : World} {base size n : Nat} {e : TypeId} {v : Value} {xs : List Value} (h : w.ownsRow base e size v n xs) : ∀ q, v.ownBlock = some q → base ≤ q := fun q e => (h.lt q e).1
theorem zs_one (M : List Int) : ∀ u ∈ zs M, u.oneCell' = true := by
  intro u hu
  obtain ⟨x, _, rfl⟩ := List.mem_map.1 hu
  rfl
theorem zi_news {w : World} {ad : Addr} {m : Nat} {M : List Int} (hz : Zi w (some ad) m M) : ∀ j u, (zs M)[j]? = some u → w.cell? (ad.add j) = some u := by
  intro j u hu
  have hj : j < M.length := by
    rcases Nat.lt_or_ge j M.length with h | h
    · exact h
    · rw [List.getElem?_eq_none (by rw [zs_len]; exact h)] at hu; cases hu
  obtain ⟨ad', e, _, hcc⟩ := hz.2 (by have := hz.1; omega)
  cases e
  rw [zs_at hj] at hu
  cases hu
  exact hcc j (by have := hz.1; omega)
theorem run_app (w : World) (ty : TypeId) (base : Nat) (v : Value) (n : Nat) (L : List Int) (hown : w.ownsRow base 3 1 v n (zs L)) (ad : Addr) (m c : Nat) (M : List Int) (hz : Zi w (some ad) m M) (hn : n + m ≤ 1000000) (hbase : base ≤ w.heap.size) :
    ∃ v' w', (Builtin.append_ #[22, 22] ty #[v, .slice (some ad) m c]).run Tryz.prog w = .ok v' w' ∧ w'.ownsRow base 3 1 v' (n + m) (zs (L ++ M)) ∧ w.grownBy w' v.ownBlock ∧ (v'.ownBlock = v.ownBlock ∨ v'.ownBlock = some w.heap.size) := by
  obtain ⟨i0, hi0, hz0, hz1, hz2⟩ := info_parts info_int
  obtain ⟨v', w', hr, h2, h3, _, h5⟩ := run_append_own_at (P := Tryz.prog) w base 22 ty 3 i0 (.int .i64 0) 1 8 Tryz.underlying22 hi0 hz0 hz1 hz2 (by rfl) (by omega) v n (zs L) hown ad m c (zs M) (by rw [zs_len, hz.1]; omega) (zi_news hz) (zs_one M) (by unfold maxLen; omega) (by omega) hbase
  exact ⟨v', w', hr, by rw [zs_app]; exact h2, h3, h5⟩
theorem wp_app (w : World) {o : Oper} {a : Act} {K : Act → World → Prop} {Q : Exit → Act → World → Prop} (s x : Operand)
    (ho : o.op = .call { callee := .builtin .append, args := #[s, x], argTypes := #[22, 22] })
    (base : Nat) (v : Value) (n : Nat) (L : List Int) (hs : a.eval s = v) (hown : w.ownsRow base 3 1 v n (zs L)) (ad : Addr) (m c : Nat) (M : List Int) (hx : a.eval x = .slice (some ad) m c) (hz : Zi w (some ad) m M) (hn : n + m ≤ 1000000) (hbase : base ≤ w.heap.size)
    (h : ∀ v' w', w'.ownsRow base 3 1 v' (n + m) (zs (L ++ M)) → w.grownBy w' v.ownBlock → (v'.ownBlock = v.ownBlock ∨ v'.ownBlock = some w.heap.size) → K (a.put o.dst v') w') : o.wp Tryz.prog a w K Q := by
  obtain ⟨v', w', hr, h2, h3, h5⟩ := run_app w o.type base v n L hown ad m c M hz hn hbase
  unfold Oper.wp execOp
  simp only [ho, resolve, invoke, builtin, Sem.run_bind, Sem.run_pure, Result.andThen_ok, List.map_toArray, List.map_cons, List.map_nil, hs, hx, hr]
  exact h v' w' h2 h3 h5
theorem step_app (w : World) {ops : Array Oper} {o : Oper} {a : Act} {K : Act → World → Prop} {Q : Exit → Act → World → Prop} {E : Prop} (hgd : o.guard = none) (s x : Operand)
    (ho : o.op = .call { callee := .builtin .append, args := #[s, x], argTypes := #[22, 22] })
    (base : Nat) (v : Value) (n : Nat) (L : List Int) (hs : a.eval s = v) (hown : w.ownsRow base 3 1 v n (zs L)) (ad : Addr) (m c : Nat) (M : List Int) (hx : a.eval x = .slice (some ad) m c) (hz : Zi w (some ad) m M) (hn : n + m ≤ 1000000) (hbase : base ≤ w.heap.size)
    (h : ∀ v' w', w'.ownsRow base 3 1 v' (n + m) (zs (L ++ M)) → w.grownBy w' v.ownBlock → (v'.ownBlock = v.ownBlock ∨ v'.ownBlock = some w.heap.size) → K (a.put o.dst v') w') :
    if Region.wanted o (yielded ops a.tmps) = true then Oper.wp Tryz.prog o a w K Q else E := by
  have hw : Region.wanted o (yielded ops a.tmps) = true := by simp [Region.wanted, hgd]
  rw [if_pos hw]
  exact wp_app w s x ho base v n L hs hown ad m c M hx hz hn hbase h
theorem list_app (w : World) {ops : Array Oper} {rest : List Oper} {o : Oper} {a : Act} {Q : Exit → Act → World → Prop} (hgd : o.guard = none) (s x : Operand)
    (ho : o.op = .call { callee := .builtin .append, args := #[s, x], argTypes := #[22, 22] })
    (base : Nat) (v : Value) (n : Nat) (L : List Int) (hs : a.eval s = v) (hown : w.ownsRow base 3 1 v n (zs L)) (ad : Addr) (m c : Nat) (M : List Int) (hx : a.eval x = .slice (some ad) m c) (hz : Zi w (some ad) m M) (hn : n + m ≤ 1000000) (hbase : base ≤ w.heap.size)
    (h : ∀ v' w', w'.ownsRow base 3 1 v' (n + m) (zs (L ++ M)) → w.grownBy w' v.ownBlock → (v'.ownBlock = v.ownBlock ∨ v'.ownBlock = some w.heap.size) → wpList Tryz.prog ops Q rest (a.put o.dst v') w') : wpList Tryz.prog ops Q (o :: rest) a w :=
  wpList_plain hgd fun _ hK => wp_app w s x ho base v n L hs hown ad m c M hx hz hn hbase fun v' w' h2 h3 h5 => hK _ _ (h v' w' h2 h3 h5)
def mix (f : Int → Int) (L : List Int) (t : Nat) : List Int := (L.map f).take t ++ L.drop t
theorem mix_len (f : Int → Int) (L : List Int) (t : Nat) : (mix f L t).length = L.length := by simp [mix]; omega
theorem mix_at (f : Int → Int) (L : List Int) (t : Nat) (h : t < L.length) : (mix f L t).getD t 0 = L.getD t 0 := by
  simp only [mix, List.getD_eq_getElem?_getD]
  rw [List.getElem?_append_right (by simp; omega)]
  simp [List.length_take, Nat.min_eq_left (Nat.le_of_lt h)]
theorem mix_set (f : Int → Int) (L : List Int) (t : Nat) (h : t < L.length) : (mix f L t).set t (f (L.getD t 0)) = mix f L (t + 1) := by
  unfold mix
  have e : L.drop t = L.getD t 0 :: L.drop (t + 1) := by
    rw [List.drop_eq_getElem_cons h, List.getD_eq_getElem?_getD, List.getElem?_eq_getElem h]; rfl
  rw [e, List.set_append_right _ _ (by simp; omega)]
  have e2 : t - ((L.map f).take t).length = 0 := by simp; omega
  rw [e2, List.set_cons_zero, take_snoc (L.map f) t (by simpa using h), List.append_assoc]
  congr 2
  simp [List.getD_eq_getElem?_getD, h]
theorem mix_all (f : Int → Int) (L : List Int) : mix f L L.length = L.map f := by
  unfold mix
  rw [List.drop_length, List.append_nil, List.take_of_length_le (by simp)]
theorem map_at (f : Int → Int) (L : List Int) (t : Nat) (h : t < L.length) : (L.map f).getD t 0 = f (L.getD t 0) := by
  rw [List.getD_eq_getElem?_getD, List.getD_eq_getElem?_getD, List.getElem?_map, List.getElem?_eq_getElem h]; rfl
theorem zi_one {W : World} {g : Nat} {x : Int} (hb : Bk W g 3 #[.int .i64 x]) : Zi W (some ⟨g, 0, none⟩) 1 [x] := zi_bk (L := [x]) hb 1 rfl
theorem bk_grown {W W' : World} {g N : Nat} {t : TypeId} {cs : Array Value} {row : Option Nat} (h : Bk W g t cs) (hg : W.grownBy W' row) (hr : ∀ b, row = some b → b < N) (hN : N ≤ g) : Bk W' g t cs :=
  (hg.block g h.lt (fun e => by have := hr g e.symm; omega)).trans h
/-- four fifths -/
def fif (a : Int) : Int := (a * 4).tdiv 5
theorem fif_in {a : Int} (h0 : -1000 ≤ a) (h1 : a ≤ 1000) : -800 ≤ fif a ∧ fif a ≤ 800 := by
  unfold fif
  rcases Int.lt_or_le a 0 with h | h
  · have e : (a * 4).tdiv 5 = -((-(a * 4)).tdiv 5) := by rw [Int.neg_tdiv, Int.neg_neg]
    rw [e, Int.tdiv_eq_ediv_of_nonneg (by omega)]
    omega
  · rw [Int.tdiv_eq_ediv_of_nonneg (by omega)]
    omega
/-- t samples have been scaled, and appended shifted -/
def SL (X : List Int) (b : Int) (n h c B0 : Nat) (v : World) (s7 s21 : Value) (wr : World) : Prop := ∃ (t : Nat) (V : World) (u : Value), V = wr ∧ u = s7 ∧ t ≤ n ∧ s21 = .int .i64 (t : Int) ∧
  wr.ownsRow B0 3 1 (.slice (some ⟨h, 0, none⟩) n c) n (zs (mix fif X t)) ∧ wr.ownsRow v.heap.size 3 1 s7 t (zs (((X.map fif).take t).map (· + b))) ∧ Ch h v wr ∧ v.heap.size ≤ wr.heap.size
theorem sl_step {X : List Int} {b y : Int} {n h c B0 t : Nat} {v wr w2 : World} {s7 v' : Value} (ht : t < n) (hL : X.length = n) (hhB : h < v.heap.size) (hy : fif (X.getD t 0) = y)
    (h1 : wr.ownsRow B0 3 1 (.slice (some ⟨h, 0, none⟩) n c) n (zs (mix fif X t))) (h2 : wr.ownsRow v.heap.size 3 1 s7 t (zs (((X.map fif).take t).map (· + b)))) (hb : Ch h v wr) (hB : v.heap.size ≤ wr.heap.size)
    (h3 : w2.ownsRow v.heap.size 3 1 v' (t + 1) (zs (((X.map fif).take t).map (· + b) ++ [y + b])))
    (hgr : ((wr.setCell ⟨h, t, none⟩ (.int .i64 y)).alloc (.cells #[.int .i64 (y + b)] 3)).grownBy w2 s7.ownBlock) :
    SL X b n h c B0 v v' (.int .i64 ((t : Int) + 1)) w2 := by
  have hrow : ∀ q, s7.ownBlock = some q → v.heap.size ≤ q := fun q e => (h2.lt q e).1
  have k1 : ((wr.setCell ⟨h, t, none⟩ (.int .i64 y)).alloc (.cells #[.int .i64 (y + b)] 3)).ownsRow B0 3 1 (.slice (some ⟨h, 0, none⟩) n c) n (zs (mix fif X (t + 1))) := by
    rw [← mix_set fif X t (by omega), hy]
    exact (own_set h1 y).alloc _
  have k2 : Ch h v ((wr.setCell ⟨h, t, none⟩ (.int .i64 y)).alloc (.cells #[.int .i64 (y + b)] 3)) := (hb.st t _).al _
  refine ⟨t + 1, _, _, rfl, rfl, by omega, by congr 1, ?_, ?_, ?_, ?_⟩
  · exact k1.kept hgr (.inr (fun e => by have := hrow h e.symm; omega))
  · have e : ((X.map fif).take (t + 1)).map (· + b) = ((X.map fif).take t).map (· + b) ++ [y + b] := by
      rw [take_snoc (X.map fif) t (by simp; omega), List.map_append]
      have : (X.map fif).getD t 0 = y := by rw [← hy]; simp [List.getD_eq_getElem?_getD, show t < X.length by omega]
      rw [this]; rfl
    rw [e]
    exact h3
  · exact ch_grown k2 hgr hrow
  · have := hgr.size
    simp [World.setCell] at this
    omega
/-- t samples have been appended in reverse order -/
def RL (X : List Int) (n : Nat) (v : World) (s7 s21 : Value) (wr : World) : Prop := ∃ (t : Nat) (V : World) (u : Value), V = wr ∧ u = s7 ∧ t ≤ n ∧ s21 = .int .i64 (t : Int) ∧ wr.ownsRow v.heap.size 3 1 s7 t (zs (X.reverse.take t)) ∧ Bel v wr
theorem rl_step {X : List Int} {y : Int} {n t j : Nat} {v wr w2 : World} {s7 v' : Value} (ht : t < n) (hL : X.length = n) (hj : n - 1 - t = j) (hy : X.getD j 0 = y)
    (h2 : wr.ownsRow v.heap.size 3 1 s7 t (zs (X.reverse.take t))) (hb : Bel v wr)
    (h3 : w2.ownsRow v.heap.size 3 1 v' (t + 1) (zs (X.reverse.take t ++ [y]))) (hgr : (wr.alloc (.cells #[.int .i64 y] 3)).grownBy w2 s7.ownBlock) :
    RL X n v v' (.int .i64 ((t : Int) + 1)) w2 := by
  refine ⟨t + 1, _, _, rfl, rfl, by omega, by congr 1, ?_, bel_grown (hb.al _) hgr (own_base h2)⟩
  have h0 : X.reverse.getD (X.length - 1 - j) 0 = X.getD j 0 := rev_at (by omega)
  have e : X.reverse.getD t 0 = y := by rw [show X.length - 1 - j = t by omega] at h0; rw [h0]; exact hy
  rw [take_snoc X.reverse t (by rw [List.length_reverse]; omega), e]
  exact h3
theorem own_made {base : Nat} (W : World) (q : Nat) (hq : W.heap.size = q) (hb : base ≤ q) : (W.alloc (.cells #[] 3)).ownsRow base 3 1 (.slice (some ⟨q, 0, none⟩) 0 0) 0 (zs []) := by
  subst hq
  exact World.ownsRow_made (base := base) (e := 3) (size := 1) W #[] 0 hb (by unfold maxLen; omega) rfl
theorem zi_none {W : World} {A : Option Addr} : Zi W A 0 [] := ⟨rfl, fun h => by omega⟩
theorem zi_part {w : World} {h N : Nat} {Z : List Int} (hz : Zi w (some ⟨h, 0, none⟩) N Z) (i n : Nat) (hi : i + n ≤ N) : Zi w (some ⟨h, i, none⟩) n ((Z.drop i).take n) := by
  have hl := hz.1
  refine ⟨by simp; omega, fun hn => ?_⟩
  obtain ⟨ad, e, hx, _⟩ := hz.2 (by omega)
  cases e
  refine ⟨_, rfl, hx, fun j hj => ?_⟩
  have := hz.at (i + j) (by omega)
  rw [show (⟨h, i, none⟩ : Addr).add j = ⟨h, i + j, none⟩ by unfold Addr.add; split <;> simp_all, this]
  simp [List.getD_eq_getElem?_getD, hj]
theorem et_move (X Y : List Int) (g b : Int) (n m : Nat) (hx : X.length = n) (hy : Y.length = m) : et (X.map (· + b)) (Y.map (· + b)) (g + b) n m = et X Y g n m := by
  refine (et_cong (n := n) (m := m) (fun i hi => ?_) (fun j hj => ?_) _ n m rfl (Nat.le_refl _) (Nat.le_refl _)).symm
  · rw [map_at _ _ _ (by omega)]; omega
  · rw [map_at _ _ _ (by omega)]; omega
theorem et_puts (X Y : List Int) (g : Int) (k n m : Nat) (hk : k ≤ n) (hx : X.length = n) : et (X.take k ++ [g] ++ X.drop k) Y g (n + 1) m = et X Y g n m := by
  have p := et_put X g k (by omega)
  rw [hx] at p
  have p2 := et_sym X (X.take k ++ [g] ++ X.drop k) g _ n (n + 1) rfl
  have a := et_tri (X.take k ++ [g] ++ X.drop k) X Y g _ (n + 1) n m rfl
  have b := et_tri X (X.take k ++ [g] ++ X.drop k) Y g _ n (n + 1) m rfl
  omega
end Go.Proofs.YtabmpnmhjdbdmaaGreatDoor.Ed
