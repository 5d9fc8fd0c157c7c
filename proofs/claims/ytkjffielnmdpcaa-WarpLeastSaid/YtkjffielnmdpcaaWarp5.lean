/- Appends to rows of rows and to rows of pairs; the contracts of slices.Clone, and of what Path shows the rows to. -/
import Derived.Test.YtkjffielnmdpcaaWarp3
import Derived.WalkSpells
namespace Go.Proofs.Ytkjffielnmdpcaa.Wa
open Go.ChangeShapes Go.WideShapes Go.RowKit Wo Sr Wi Ed
set_option linter.unusedVariables false
theorem wp_appg (w : World) {o : Oper} {a : Act} {K : Act → World → Prop} {Q : Exit → Act → World → Prop} (s x : Operand) (t e : TypeId) (z : Value) (size bytes : Nat) (hu : Try.prog.underlying t = some (.slice e))
    (hi : (Try.prog.info? e).map (fun i => (i.zero, i.size, i.bytes)) = some (some z, size, bytes)) (hzs : z.cells.size = size) (hsz : 0 < size)
    (ho : o.op = .call { callee := .builtin .append, args := #[s, x], argTypes := #[t, t] })
    (base : Nat) (v : Value) (n : Nat) (L : List Value) (hs : a.eval s = v) (hown : w.ownsRow base e size v n L) (ad : Addr) (m c : Nat) (M : List Value) (hx : a.eval x = .slice (some ad) m c) (hl : M.length = m * size)
    (hM : ∀ j u, M[j]? = some u → w.cell? (ad.add j) = some u) (h1 : ∀ u ∈ M, u.oneCell' = true) (hn : n + m ≤ 1000000) (hb : bytes ≤ 1000) (hbase : base ≤ w.heap.size)
    (h : ∀ v' w', w'.ownsRow base e size v' (n + m) (L ++ M) → w.grownBy w' v.ownBlock → (v'.ownBlock = v.ownBlock ∨ v'.ownBlock = some w.heap.size) → K (a.put o.dst v') w') : o.wp Try.prog a w K Q := by
  obtain ⟨i0, hi0, hz0, hz1, hz2⟩ := info_parts hi
  obtain ⟨v', w', hr, h2, h3, _, h5⟩ := run_append_own_at (P := Try.prog) w base t o.type e i0 z size bytes hu hi0 hz0 hz1 hz2 hzs hsz v n L hown ad m c M hl hM h1 (by unfold maxLen; omega) (by
    have : (n + m) * bytes ≤ 1000000 * 1000 := Nat.mul_le_mul hn hb
    omega) hbase
  unfold Oper.wp execOp
  simp only [ho, resolve, invoke, builtin, Sem.run_bind, Sem.run_pure, Result.andThen_ok, List.map_toArray, List.map_cons, List.map_nil, hs, hx, hr]
  exact h v' w' h2 h3 h5
theorem step_appg (w : World) {ops : Array Oper} {o : Oper} {a : Act} {K : Act → World → Prop} {Q : Exit → Act → World → Prop} {E : Prop} (hgd : o.guard = none) (s x : Operand) (t e : TypeId) (z : Value) (size bytes : Nat) (hu : Try.prog.underlying t = some (.slice e))
    (hi : (Try.prog.info? e).map (fun i => (i.zero, i.size, i.bytes)) = some (some z, size, bytes)) (hzs : z.cells.size = size) (hsz : 0 < size)
    (ho : o.op = .call { callee := .builtin .append, args := #[s, x], argTypes := #[t, t] })
    (base : Nat) (v : Value) (n : Nat) (L : List Value) (hs : a.eval s = v) (hown : w.ownsRow base e size v n L) (ad : Addr) (m c : Nat) (M : List Value) (hx : a.eval x = .slice (some ad) m c) (hl : M.length = m * size)
    (hM : ∀ j u, M[j]? = some u → w.cell? (ad.add j) = some u) (h1 : ∀ u ∈ M, u.oneCell' = true) (hn : n + m ≤ 1000000) (hb : bytes ≤ 1000) (hbase : base ≤ w.heap.size)
    (h : ∀ v' w', w'.ownsRow base e size v' (n + m) (L ++ M) → w.grownBy w' v.ownBlock → (v'.ownBlock = v.ownBlock ∨ v'.ownBlock = some w.heap.size) → K (a.put o.dst v') w') :
    if Region.wanted o (yielded ops a.tmps) = true then Oper.wp Try.prog o a w K Q else E := by
  have hw : Region.wanted o (yielded ops a.tmps) = true := by simp [Region.wanted, hgd]
  rw [if_pos hw]
  exact wp_appg w s x t e z size bytes hu hi hzs hsz ho base v n L hs hown ad m c M hx hl hM h1 hn hb hbase h
theorem list_appg (w : World) {ops : Array Oper} {rest : List Oper} {o : Oper} {a : Act} {Q : Exit → Act → World → Prop} (hgd : o.guard = none) (s x : Operand) (t e : TypeId) (z : Value) (size bytes : Nat) (hu : Try.prog.underlying t = some (.slice e))
    (hi : (Try.prog.info? e).map (fun i => (i.zero, i.size, i.bytes)) = some (some z, size, bytes)) (hzs : z.cells.size = size) (hsz : 0 < size)
    (ho : o.op = .call { callee := .builtin .append, args := #[s, x], argTypes := #[t, t] })
    (base : Nat) (v : Value) (n : Nat) (L : List Value) (hs : a.eval s = v) (hown : w.ownsRow base e size v n L) (ad : Addr) (m c : Nat) (M : List Value) (hx : a.eval x = .slice (some ad) m c) (hl : M.length = m * size)
    (hM : ∀ j u, M[j]? = some u → w.cell? (ad.add j) = some u) (h1 : ∀ u ∈ M, u.oneCell' = true) (hn : n + m ≤ 1000000) (hb : bytes ≤ 1000) (hbase : base ≤ w.heap.size)
    (h : ∀ v' w', w'.ownsRow base e size v' (n + m) (L ++ M) → w.grownBy w' v.ownBlock → (v'.ownBlock = v.ownBlock ∨ v'.ownBlock = some w.heap.size) → wpList Try.prog ops Q rest (a.put o.dst v') w') : wpList Try.prog ops Q (o :: rest) a w :=
  wpList_plain hgd fun _ hK => wp_appg w s x t e z size bytes hu hi hzs hsz ho base v n L hs hown ad m c M hx hl hM h1 hn hb hbase fun v' w' h2 h3 h5 => hK _ _ (h v' w' h2 h3 h5)
theorem info_row : (Try.prog.info? 22).map (fun i => (i.zero, i.size, i.bytes)) = some (some (.slice none 0 0), 1, 24) := by kernel_rfl
theorem info_pair : (Try.prog.info? 64).map (fun i => (i.zero, i.size, i.bytes)) = some (some (.agg #[.int .i64 0, .int .i64 0]), 2, 16) := by kernel_rfl
set_option maxHeartbeats 2000000 in
theorem clone_ok (q c n : Nat) (Z : List Int) (n0 : 1 ≤ n) (hn : n ≤ 1000) (w : World) (hz : Zi w (some ⟨q, 0, none⟩) n Z) :
    Calls Try.prog 40 #[.slice (some ⟨q, 0, none⟩) n c] w fun e w' => ∃ a k, e = .returned (.slice (some ⟨a, 0, none⟩) n k) ∧ w.heap.size ≤ a ∧ w'.ownsRow w.heap.size 3 1 (.slice (some ⟨a, 0, none⟩) n k) n (zs Z) ∧ Bel w w' := by
  have HZ : Hid (Zi (w.alloc (.cells #[] 3)) (some ⟨q, 0, none⟩) n Z) := hz.bel (Bel.rf.al _)
  have en : ∀ (w : World) (a : Option Addr) (n c n' c' : Nat), (binOp .eql 22 (.slice a n c) (.slice none n' c')).run Try.prog w = .ok (.bool a.isNone) w := fun w a n c n' c' => Lib.run_eql_slice_nil w _ _ a n c n' c' Try.underlying22
  have HO := Lib.hid (own_made (base := w.heap.size) w w.heap.size rfl (Nat.le_refl _))
  clear hz
  go_enter Try.func40, Try.ntmps40
  go_wp2_with (at_builtin; refine list_app _ rfl (.tmp 5) (.tmp 6) rfl w.heap.size (.slice (some ⟨w.heap.size, 0, none⟩) 0 0) 0 [] rfl HO.out ⟨q, 0, none⟩ n c Z rfl HZ.out (by omega) (by simp) ?_; intro v' w2 h2 h3 h4; rw [Nat.zero_add, List.nil_append] at h2; obtain ⟨a, k, rfl, hk1, hk2⟩ := row_form h2 (by omega); have hb2 : Bel w w2 := bel_grown (Bel.rf.al _) h3 (fun q e => by cases e; exact Nat.le_refl _))
  go_ret
  exact ⟨a, k, rfl, hk2, h2, hb2⟩
/-- only block g and the row r have changed, and what is new -/
def Cx (g : Nat) (r : Option Nat) (w w' : World) : Prop := w'.os = w.os ∧ w'.tape = w.tape ∧ w'.output = w.output ∧ w.heap.size ≤ w'.heap.size ∧ ∀ k, k < w.heap.size → k ≠ g → some k ≠ r → w'.heap[k]? = w.heap[k]?
theorem Cx.bk {g : Nat} {r : Option Nat} {w w' : World} (h : Cx g r w w') {k : Nat} {t : TypeId} {cs : Array Value} (hb : Bk w k t cs) (h1 : k ≠ g) (h2 : some k ≠ r) : Bk w' k t cs := (h.2.2.2.2 k hb.lt h1 h2).trans hb
theorem Cx.bel {g : Nat} {r : Option Nat} {w0 w w' : World} (hb : Bel w0 w) (h : Cx g r w w') (hg : w0.heap.size ≤ g) (hr : ∀ k, r = some k → w0.heap.size ≤ k) : Bel w0 w' :=
  ⟨h.1.trans hb.bl.os, h.2.1.trans hb.bl.tape, h.2.2.1.trans hb.bl.output, Nat.le_trans hb.size h.2.2.2.1, fun k hk => (h.2.2.2.2 k (Nat.lt_of_lt_of_le hk hb.size) (by omega) (fun e => by have := hr k e.symm; omega)).trans (hb.bl.block k hk)⟩
theorem zi_block {w w' : World} {a n : Nat} {Z : List Int} (hz : Zi w (some ⟨a, 0, none⟩) n Z) (h : a < w.heap.size → w'.heap[a]? = w.heap[a]?) (hs : w.heap.size ≤ w'.heap.size) : Zi w' (some ⟨a, 0, none⟩) n Z :=
  ⟨hz.1, fun hn => by
    obtain ⟨ad, e, hx, hc⟩ := hz.2 hn
    cases e
    refine ⟨_, rfl, by omega, fun j hj => ?_⟩
    have := hc j hj
    rw [add_row] at this ⊢
    rw [← this]
    unfold World.cell?
    rw [h hx]⟩
theorem own_free {w : World} {base k size g : Nat} {e t : TypeId} {v : Value} {xs : List Value} {cs : Array Value} (h : w.ownsRow base e size v k xs) (hb : Bk w g t cs) (hne : t ≠ e) : some g ≠ v.ownBlock := by
  intro hg
  rcases h.2 with ⟨rfl, _⟩ | ⟨g', cap, cur, rfl, _, hh, _⟩
  · cases hg
  · injection hg with hg
    subst hg
    unfold Bk at hb
    rw [hh] at hb
    injection hb with hb
    injection hb with _ hb
    exact hne hb.symm
theorem own_far {w : World} {base k size : Nat} {e : TypeId} {v : Value} {xs : List Value} (h : w.ownsRow base e size v k xs) {p : Addr} (hp : some p.block ≠ v.ownBlock) (u : Value) : (w.setCell p u).ownsRow base e size v k xs := by
  refine ⟨h.1, ?_⟩
  rcases h.2 with hn | ⟨g, cap, cur, rfl, hb, hg, rest⟩
  · exact .inl hn
  · exact .inr ⟨g, cap, cur, rfl, hb, (Below.heap_setCell w p u g (fun e => hp (by rw [← e]; rfl))).trans hg, rest⟩
theorem own_blk {w : World} {base a n c : Nat} {Z : List Int} (h : w.ownsRow base 3 1 (.slice (some ⟨a, 0, none⟩) n c) n (zs Z)) (hl : Z.length = n) (n1 : 1 ≤ n) : ∃ cur, Bk w a 3 cur ∧ ∀ j, j < n → cur[j]? = some (.int .i64 (Z.getD j 0)) := by
  have hz := own_zi h hl
  rcases h.2 with ⟨h0, _⟩ | ⟨g, cap, cur, e1, hb, hg, _⟩
  · cases h0
  · injection e1 with e1 e2 e3
    injection e1 with e1
    cases e1
    refine ⟨cur, hg, fun j hj => ?_⟩
    have h2 := hz.at j hj
    rwa [Bk.cell (t := 3) hg] at h2
theorem bk_ne {w : World} {g h : Nat} {t t' : TypeId} {cs cs' : Array Value} (h1 : Bk w g t cs) (h2 : Bk w h t' cs') (hne : t ≠ t') : g ≠ h := by
  rintro rfl
  unfold Bk at h1 h2
  rw [h1] at h2
  injection h2 with h2
  injection h2 with _ h2
  exact hne h2
theorem bk_gr {W W' : World} {g : Nat} {t : TypeId} {cs : Array Value} {row : Option Nat} (h : Bk W g t cs) (hg : W.grownBy W' row) (hr : some g ≠ row) : Bk W' g t cs := (hg.block g h.lt hr).trans h
theorem shown_end {base gc a ca m k : Nat} {v v' : Value} {R : List Value} {Z : List Int} {W w2 w4 : World} (hl : Z.length = m + 1) (hgc : Bk W gc 62 #[v]) (hown : W.ownsRow base 22 1 v k R) (hB : Bel W w2) (ha : W.heap.size ≤ a) (h2 : w2.ownsRow W.heap.size 3 1 (.slice (some ⟨a, 0, none⟩) (m + 1) ca) (m + 1) (zs Z))
    (h4 : w4.ownsRow base 22 1 v' (k + 1) (R ++ [.slice (some ⟨a, 0, none⟩) (m + 1) ca])) (hg : (w2.alloc (.cells #[.slice (some ⟨a, 0, none⟩) (m + 1) ca] 22)).grownBy w4 v.ownBlock) :
    ∃ cur, Bk (w4.setCell ⟨gc, 0, none⟩ v') gc 62 #[v'] ∧ (w4.setCell ⟨gc, 0, none⟩ v').ownsRow base 22 1 v' (k + 1) (R ++ [.slice (some ⟨a, 0, none⟩) (m + 1) ca]) ∧ W.heap.size ≤ a ∧ Bk (w4.setCell ⟨gc, 0, none⟩ v') a 3 cur ∧ (∀ j, j ≤ m → cur[j]? = some (.int .i64 (Z.getD j 0))) ∧ Cx gc v.ownBlock W (w4.setCell ⟨gc, 0, none⟩ v') := by
  obtain ⟨cur, hc, hcc⟩ := own_blk h2 hl (by omega)
  have k4 : Bk w4 gc 62 #[v] := bk_gr ((hgc.bel hB).al _) hg (own_free hown hgc (by decide))
  have a4 : Bk w4 a 3 cur := bk_gr (hc.al _) hg (own_free (own_bel hown hB) hc (by decide))
  refine ⟨cur, k4.st 0 v', own_far h4 (own_free h4 k4 (by decide)) _, ha, a4.far (bk_ne a4 k4 (by decide)) _, fun j hj => hcc j (by omega), ?_⟩
  have hB2 : Bel W (w2.alloc (.cells #[.slice (some ⟨a, 0, none⟩) (m + 1) ca] 22)) := hB.al _
  refine ⟨?_, ?_, ?_, ?_, ?_⟩
  · exact hg.os.trans hB2.bl.os
  · exact hg.tape.trans hB2.bl.tape
  · exact hg.output.trans hB2.bl.output
  · have := hg.size
    have := hB2.size
    simp [World.setCell] at *
    omega
  · intro q hq h1 h2
    have e1 : (w4.setCell ⟨gc, 0, none⟩ v').heap[q]? = w4.heap[q]? := Below.heap_setCell w4 _ v' q (by show q ≠ gc; exact h1)
    rw [e1, hg.block q (Nat.lt_of_lt_of_le hq hB2.size) h2]
    exact Below.block hB2 q hq
set_option maxHeartbeats 2000000 in
theorem shown_p (base gc q m k : Nat) (v : Value) (R : List Value) (Z : List Int) (hm : m ≤ 900) (hk : k ≤ 1000) (W : World) (hgc : Bk W gc 62 #[v]) (hown : W.ownsRow base 22 1 v k R) (hbase : base ≤ W.heap.size) (hq : Bk W q 3 (zs Z).toArray) (hl : Z.length = m + 1) :
    Calls Try.prog 39 #[.slice (some ⟨q, 0, none⟩) (m + 1) (m + 1), .pointer (some ⟨gc, 0, none⟩)] W fun e W' => ∃ v' a c cur, e = .returned (.tuple #[]) ∧ Bk W' gc 62 #[v'] ∧ W'.ownsRow base 22 1 v' (k + 1) (R ++ [.slice (some ⟨a, 0, none⟩) (m + 1) c]) ∧ W.heap.size ≤ a ∧ Bk W' a 3 cur ∧ (∀ j, j ≤ m → cur[j]? = some (.int .i64 (Z.getD j 0))) ∧ Cx gc v.ownBlock W W' := by
  have c1 := hgc.cell 0
  simp at c1
  have HCL : Hid (∀ W', Bel W W' → Calls Try.prog 40 #[.slice (some ⟨q, 0, none⟩) (m + 1) (m + 1)] W' _) := fun W' hW => clone_ok q (m + 1) (m + 1) Z (by omega) (by omega) W' ((zi_bk hq (m + 1) hl).bel hW)
  have HGC := Lib.hid hgc
  have HOW := Lib.hid hown
  clear hgc hown hq
  go_enter Try.func39, Try.ntmps39
  go_wp2
  go_region_law (first
    | (go_simp; go_at_call 40; refine (HCL.out _ (by repeat (first | exact Bel.rf | (with_reducible refine Bel.drwN ?_ _) | (with_reducible refine Bel.drw ?_)))).mono ?_; rintro e w2 ⟨a, ca, rfl, ha1, ha2, hb2⟩; have c2 := hb2.kp (p := ⟨gc, 0, none⟩) c1; have c2a := fun o => kp_al c2 o)
    | (refine step_appg _ rfl (.tmp 3) (.tmp 6) 62 22 (.slice none 0 0) 1 24 Try.underlying62 info_row rfl (by decide) rfl base v k R rfl (own_bel HOW.out (Bel.al (Bel.tr (by repeat (first | exact Bel.rf | (with_reducible refine Bel.drwN ?_ _) | (with_reducible refine Bel.drw ?_))) hb2) _)) ⟨w2.heap.size, 0, none⟩ 1 1 [.slice (some ⟨a, 0, none⟩) (m + 1) ca] rfl rfl (World.news_of_block (cs := #[.slice (some ⟨a, 0, none⟩) (m + 1) ca]) (t := 22) (fr := (0, 0)) (heap_alloc_new _ _)) (by simp [Value.oneCell']) (by omega) (by decide) (by have := hb2.size; simp at *; omega) ?_; intro v' w4 hown4 hgr4 hat4; have k4 := bk_gr (((Bk.bel HGC.out (Bel.tr (by repeat (first | exact Bel.rf | (with_reducible refine Bel.drwN ?_ _) | (with_reducible refine Bel.drw ?_))) hb2))).al _) hgr4 (own_free HOW.out HGC.out (by decide)); have c4 := k4.cell 0; have f4 := k4.fr 0; simp at c4; obtain ⟨A5, c5, rfl, _⟩ := own_any hown4))
  all_goals
    have hbw : Bel W w2 := Bel.tr (by repeat (first | exact Bel.rf | (with_reducible refine Bel.drwN ?_ _) | (with_reducible refine Bel.drw ?_))) hb2
    obtain ⟨cur, e1, e2, e3, e4, e5, e6⟩ := shown_end hl HGC.out HOW.out hbw ha1 ha2 hown4 hgr4
    go_end0
    exact ⟨_, a, ca, cur, rfl, e1, e2, e3, e4, e5, e6⟩
end Go.Proofs.Ytkjffielnmdpcaa.Wa
