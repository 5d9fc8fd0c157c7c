/- What stands while Path's search goes on; the contract of warp.Path. -/
import Derived.Test.YtkjffielnmdpcaaWarp7
import Derived.Test.YtkjffielnmdpcaaWarpM2
import Derived.BigQuiet
namespace Go.Proofs.Ytkjffielnmdpcaa.Wa
open Go.ChangeShapes Go.WideShapes Go.RowKit Wo Sr Wi Ed
set_option linter.unusedVariables false
/-- what stands while Path's search goes on -/
def JP (w0 : World) (gc m : Nat) (L M : List Int) (b : Int) (p q i : Nat) (W : World) : Prop :=
  Bel w0 W ∧ w0.heap.size ≤ gc ∧ (w0.heap.size ≤ p ∧ p ≠ gc) ∧ (w0.heap.size ≤ q ∧ q ≠ gc) ∧ ∃ (v : Value) (R : List Value), Bk W gc 62 #[v] ∧ W.ownsRow w0.heap.size 22 1 v (i + 1) R ∧ some p ≠ v.ownBlock ∧ some q ≠ v.ownBlock ∧
    ∀ t, t ≤ i → ∃ a c cur, R[t]? = some (.slice (some ⟨a, 0, none⟩) (m + 1) c) ∧ Bk W a 3 cur ∧ (∀ j, j ≤ m → 0 < t + j → cur[j]? = some (.int .i64 (wt L M b t j))) ∧ a ≠ p ∧ a ≠ q
theorem shows_p (w0 : World) (gc : Nat) (A A' : Option Addr) (n m : Nat) (hn : n ≤ 900) (hm : m ≤ 900) (L M : List Int) (b : Int) (h1 : Zi w0 A n L) (h2 : Zi w0 A' m M) :
    Shows A A' n m L M b 39 #[.pointer (some ⟨gc, 0, none⟩)] (JP w0 gc m L M b) where
  zi h := ⟨h1.bel h.1, h2.bel h.1⟩
  sw := by
    rintro p q i W ⟨a1, a2, a3, a4, v, R, a5, a6, a7, a8, a9⟩
    refine ⟨a1, a2, a4, a3, v, R, a5, a6, a8, a7, fun t ht => ?_⟩
    obtain ⟨a, c, cur, b1, b2, b3, b4, b5⟩ := a9 t ht
    exact ⟨a, c, cur, b1, b2, b3, b5, b4⟩
  st := by
    rintro p q i W j u ⟨a1, a2, a3, a4, v, R, a5, a6, a7, a8, a9⟩
    refine ⟨a1.st a4.1 _, a2, a3, a4, v, R, a5.far (fun e => a4.2 e.symm) _, own_far a6 a8 _, a7, a8, fun t ht => ?_⟩
    obtain ⟨a, c, cur, b1, b2, b3, b4, b5⟩ := a9 t ht
    exact ⟨a, c, cur, b1, b2.far b5 _, b3, b4, b5⟩
  dr := by
    rintro p q i W ⟨a1, a2, a3, a4, v, R, a5, a6, a7, a8, a9⟩
    exact ⟨a1.drw, a2, a3, a4, v, R, a5.drw, own_bel a6 Bel.rf.drw, a7, a8, a9⟩
  dn := by
    rintro p q i W k ⟨a1, a2, a3, a4, v, R, a5, a6, a7, a8, a9⟩
    exact ⟨a1.drwN _, a2, a3, a4, v, R, a5.drwN _, own_bel a6 (Bel.rf.drwN _), a7, a8, a9⟩
  call := by
    rintro p q i W Zp Zq hi ⟨a1, a2, a3, a4, v, R, a5, a6, a7, a8, a9⟩ hpq hp hq hr
    have hsz := a1.size
    refine (shown_p w0.heap.size gc q m (i + 1) v R Zq hm (by omega) W a5 a6 hsz hq hr.1).mono ?_
    rintro e W' ⟨v', a, c, cur, rfl, h1, h2, h3, h4, h5, h6⟩
    have hp' := h6.bk hp a3.2 a7
    have hq' := h6.bk hq a4.2 a8
    have hRl : R.length = i + 1 := by have := a6.1; omega
    refine ⟨rfl, ⟨h6.bel a1 a2 (fun k e => (a6.lt k e).1), a2, a3, a4, v', R ++ [.slice (some ⟨a, 0, none⟩) (m + 1) c], h1, h2, own_free h2 hp' (by decide), own_free h2 hq' (by decide), fun t ht => ?_⟩, hp', hq'⟩
    rcases Nat.lt_or_ge i t with hlt | hge
    · obtain rfl : t = i + 1 := by omega
      refine ⟨a, c, cur, by rw [List.getElem?_append_right (by omega), hRl, Nat.sub_self]; rfl, h4, fun j hj _ => ?_, ?_, ?_⟩
      · rw [h5 j hj, hr.2 j hj]
      · have := hp.lt; omega
      · have := hq.lt; omega
    · obtain ⟨a0, c0, cur0, b1, b2, b3, b4, b5⟩ := a9 t hge
      exact ⟨a0, c0, cur0, by rw [List.getElem?_append_left (by omega)]; exact b1, h6.bk b2 (bk_ne b2 a5 (by decide)) (own_free a6 b2 (by decide)), b3, b4, b5⟩
theorem enters_p : ∀ args w, (callFunc 39 args).run Try.prog w = .ok (.enter 39 args) w := enters_of Try.func39 (by kernel_rfl) rfl
theorem jp_start {w w2 W : World} {a0 m p q : Nat} {L M : List Int} {b : Int} (hb : Bel w w2) (ha : w.heap.size ≤ a0) (hk : Bk w2 a0 3 (zs (List.replicate (m + 1) far)).toArray)
    (hW : Bel ((w2.alloc (.cells #[.slice (some ⟨a0, 0, none⟩) (m + 1) (m + 1)] 22)).alloc (.cells #[.slice (some ⟨w2.heap.size, 0, none⟩) 1 1] 62)) W) (hp : w2.heap.size + 2 ≤ p) (hq : w2.heap.size + 2 ≤ q) :
    JP w (w2.heap.size + 1) m L M b p q 0 W := by
  have hz := hb.size
  have hl := hk.lt
  have hB : Bel w W := ((hb.al _).al _).tr hW
  have hk1 : Bk W w2.heap.size 22 #[.slice (some ⟨a0, 0, none⟩) (m + 1) (m + 1)] := Bk.bel (Bk.al (Bk.nw _ _ _) _) hW
  have hk2 : Bk W (w2.heap.size + 1) 62 #[.slice (some ⟨w2.heap.size, 0, none⟩) 1 1] := Bk.bel (Bk.nq _ _ _ (by simp)) hW
  refine ⟨hB, by omega, ⟨by omega, by omega⟩, ⟨by omega, by omega⟩, _, [.slice (some ⟨a0, 0, none⟩) (m + 1) (m + 1)], hk2, ?_, ?_, ?_, fun t ht => ?_⟩
  · exact ⟨rfl, .inr ⟨w2.heap.size, 1, _, rfl, hz, hk1, Nat.le_refl _, by unfold maxLen; omega, rfl, rfl⟩⟩
  · intro e; injection e with e; simp at e; omega
  · intro e; injection e with e; simp at e; omega
  · obtain rfl : t = 0 := by omega
    refine ⟨a0, m + 1, _, rfl, ((hk.al _).al _).bel hW, fun j hj h0 => ?_, by omega, by omega⟩
    obtain ⟨j', rfl⟩ : ∃ j', j = j' + 1 := ⟨j - 1, by omega⟩
    rw [wt_0s]
    simp [zs, List.getElem?_replicate, show j' + 1 < m + 1 by omega]
theorem bk_both {X Y : List Int} {b : Int} (hs : Sam X) (ht : Sam Y) (hb : 0 ≤ b) {i j : Nat} (hi : i ≤ 60) (hj : j ≤ 60) (hB : Bnd b i j) (h0 : 0 < i + j) (h : wt X Y b i j ≤ wt X Y b i (j + 1) ∧ wt X Y b i j ≤ wt X Y b (i + 1) j) : 1 ≤ i ∧ 1 ≤ j := by
  have hW := wt_in X Y b i j hB
  have hS := wt_small hs ht hb (by omega) (by omega) hB
  have hc := (cst_in hs ht i j).1
  have hm : wt X Y b i j < far := by
    have := mn3_le (wt X Y b i j) (wt X Y b i (j + 1)) (wt X Y b (i + 1) j)
    rcases mn3_or (wt X Y b i j) (wt X Y b i (j + 1)) (wt X Y b (i + 1) j) with h | h | h <;> omega
  rcases wt_cell hm with ⟨h1, h2⟩ | ⟨p, q, h1, h2, _⟩ <;> omega
theorem bk_left {X Y : List Int} {b : Int} (hs : Sam X) (ht : Sam Y) (hb : 0 ≤ b) {i j : Nat} (hi : i ≤ 60) (hj : j ≤ 60) (hB : Bnd b i j) (h0 : 0 < i + j) (h1 : ¬ (wt X Y b i j ≤ wt X Y b i (j + 1) ∧ wt X Y b i j ≤ wt X Y b (i + 1) j)) (h2 : wt X Y b i (j + 1) ≤ wt X Y b (i + 1) j) : 1 ≤ i := by
  have hW := wt_in X Y b i j hB
  have hS := wt_small hs ht hb (by omega) (by omega) hB
  have hc := (cst_in hs ht i j).1
  have hm : wt X Y b i (j + 1) < far := by
    have := mn3_le (wt X Y b i j) (wt X Y b i (j + 1)) (wt X Y b (i + 1) j)
    rcases mn3_or (wt X Y b i j) (wt X Y b i (j + 1)) (wt X Y b (i + 1) j) with h | h | h <;> omega
  rcases wt_cell hm with ⟨h1, h2⟩ | ⟨p, q, h1, h2, _⟩ <;> omega
theorem bk_right {X Y : List Int} {b : Int} (hs : Sam X) (ht : Sam Y) (hb : 0 ≤ b) {i j : Nat} (hi : i ≤ 60) (hj : j ≤ 60) (hB : Bnd b i j) (h0 : 0 < i + j) (h1 : ¬ (wt X Y b i j ≤ wt X Y b i (j + 1) ∧ wt X Y b i j ≤ wt X Y b (i + 1) j)) (h2 : ¬ wt X Y b i (j + 1) ≤ wt X Y b (i + 1) j) : 1 ≤ j := by
  have hW := wt_in X Y b i j hB
  have hS := wt_small hs ht hb (by omega) (by omega) hB
  have hc := (cst_in hs ht i j).1
  have hm : wt X Y b (i + 1) j < far := by
    have := mn3_le (wt X Y b i j) (wt X Y b i (j + 1)) (wt X Y b (i + 1) j)
    rcases mn3_or (wt X Y b i j) (wt X Y b i (j + 1)) (wt X Y b (i + 1) j) with h | h | h <;> omega
  rcases wt_cell hm with ⟨h1, h2⟩ | ⟨p, q, h1, h2, _⟩ <;> omega
theorem own_low {w : World} {base base' size n : Nat} {e : TypeId} {v : Value} {xs : List Value} (h : w.ownsRow base e size v n xs) (hb : base' ≤ base) : w.ownsRow base' e size v n xs := by
  refine ⟨h.1, ?_⟩
  rcases h.2 with hn | ⟨g, cap, cur, rfl, hbb, rest⟩
  · exact .inl hn
  · exact .inr ⟨g, cap, cur, rfl, by omega, rest⟩
theorem row_cell {w : World} {base n g c t : Nat} {R : List Value} {u : Value} (h : w.ownsRow base 22 1 (.slice (some ⟨g, 0, none⟩) n c) n R) (hu : R[t]? = some u) : w.cell? ⟨g, t, none⟩ = some u := by
  have := h.cells (g := g) rfl t u hu
  rwa [add_row] at this
theorem grown_bel {w a b : World} {row : Option Nat} (h : Bel w a) (hg : a.grownBy b row) (hr : ∀ q, row = some q → w.heap.size ≤ q) : Bel w b := Below.grown h hg h.size hr
end Go.Proofs.Ytkjffielnmdpcaa.Wa
