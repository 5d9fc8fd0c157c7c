/- keep's Bent of any list of samples, an empty one too; what is kept of the lists of a law. -/
import Derived.Test.YtkonknkoggfeaaaBnt
import Derived.Lib.AppendZeros
namespace Go.Proofs.Ytkonknkoggfeaaa.Sr
open Go.ChangeShapes Go.WideShapes Go.RowKit Wo Wi
set_option linter.unusedVariables false
theorem wd_nil : Wd64 [] := fun x hx => (List.not_mem_nil hx).elim
theorem sam_nile : Sam [] := fun x hx => (List.not_mem_nil hx).elim
theorem run_app0 (w : World) (ty : TypeId) (base : Nat) (v : Value) (hown : w.ownsRow base 3 1 v 0 (zs [])) (A : Option Addr) (c : Nat) :
    (Builtin.append_ #[22, 22] ty #[v, .slice A 0 c]).run Try.prog w = .ok v w := by
  obtain ⟨i0, hi0, hz0, hz1, hz2⟩ := info_parts info_int
  rcases hown.2 with ⟨rfl, _⟩ | ⟨g, cap, cur, rfl, _, _, hnc, _⟩
  · cases A <;> simp [Builtin.append_, run_underlying Try.underlying22, sizeOf, typeInfo, hi0, Builtin.lenOf, Builtin.firstCells, loadCells, loadCellsFrom, Result.andThen]
  · cases A <;> simp [Builtin.append_, run_underlying Try.underlying22, sizeOf, typeInfo, hi0, Builtin.lenOf, Builtin.firstCells, hnc, loadCells, loadCellsFrom, storeCells, Result.andThen]
theorem list_app0 (w : World) {ops : Array Oper} {rest : List Oper} {o : Oper} {a : Act} {Q : Exit → Act → World → Prop} (hgd : o.guard = none) (s x : Operand)
    (ho : o.op = .call { callee := .builtin .append, args := #[s, x], argTypes := #[22, 22] })
    (base : Nat) (v : Value) (hs : a.eval s = v) (hown : w.ownsRow base 3 1 v 0 (zs [])) (A : Option Addr) (c : Nat) (hx : a.eval x = .slice A 0 c)
    (h : wpList Try.prog ops Q rest (a.put o.dst v) w) : wpList Try.prog ops Q (o :: rest) a w :=
  Lib.wpList_append_run w hgd s x _ _ ho _ _ hs hx v w (run_app0 w o.type base v hown A c) h
set_option maxHeartbeats 8000000 in
set_option maxRecDepth 100000 in
theorem bent_zero (g : Nat) (A : Option Addr) (c : Nat) (w : World) (h : Ok w g) :
    Calls Try.prog 7 #[.pointer (some ⟨g, 0, none⟩), .slice A 0 c] w (SomeBent g 0 w) := by
  have HG0 := Lib.hid h
  have HGB := Lib.hid h.lt
  have HO := Lib.hid (own_made (base := w.heap.size) w w.heap.size rfl (Nat.le_refl _))
  have HO1 : Hid (Ok (w.alloc (.cells #[] 3)) g) := h.bel (Bel.rf.al _)
  have HC1 : Hid (Ch g w (w.alloc (.cells #[] 3))) := Ch.rf.al _
  clear h
  go_enter Try.func7, Try.ntmps7
  go_wp2_with (at_builtin; refine list_app0 _ rfl (.tmp 6) (.tmp 7) rfl w.heap.size (.slice (some ⟨w.heap.size, 0, none⟩) 0 0) rfl HO.out A c rfl ?_)
  go_at_call 20
  refine (n_any g 4 (by decide) (by decide) _ HO1.out).mono ?_
  rintro e w2 ⟨x, rfl, x0, x1, ho, hc⟩
  have HO2 := Lib.hid ho
  have HC2 : Hid (Ch g w w2) := HC1.out.tr hc
  have HW2 := Lib.hid (own_ch HO.out hc HGB.out)
  have HL2 : Hid (w.heap.size ≤ w2.heap.size) := by have := HC2.out.sz; exact this
  clear ho hc
  rcases (by omega : x = 0 ∨ x = 1 ∨ 2 ≤ x) with rfl | rfl | hx
  · go_wp2_with fail
    go_at_call 20
    refine (n_any g 2 (by decide) (by decide) _ HO2.out).mono ?_
    rintro e w3 ⟨y, rfl, y0, y1, ho, hc⟩
    obtain ⟨k, rfl⟩ := Int.eq_ofNat_of_zero_le y0
    have HO3 := Lib.hid ho
    have HC3 : Hid (Ch g w w3) := HC2.out.tr hc
    clear ho hc
    rcases Nat.lt_or_ge k 1 with hk | hk
    · obtain rfl : k = 0 := by omega
      go_wp2
      go_ret
      exact ⟨some ⟨w.heap.size, 0, none⟩, 0, 0, [], rfl, by omega, zi_none, wd_nil, fun ad e => by cases e; exact Nat.le_refl _, HO3.out, HC3.out⟩
    · obtain rfl : k = 1 := by omega
      go_wp2
      go_ret
      exact ⟨some ⟨w.heap.size, 0, none⟩, 0, 0, [], rfl, by omega, zi_none, wd_nil, fun ad e => by cases e; exact Nat.le_refl _, HO3.out, HC3.out⟩
  · go_wp2
    go_loopw [5] (fun s5 wr => ∃ (k h c3 : Nat) (L : List Int) (V : World), V = wr ∧ s5 = .slice (some ⟨h, 0, none⟩) k c3 ∧ k ≤ c3 ∧ w.heap.size ≤ h ∧ k ≤ 33 ∧ wr.ownsRow w.heap.size 3 1 (.slice (some ⟨h, 0, none⟩) k c3) k (zs L) ∧ L.length = k ∧ Sam L ∧ Ok wr g ∧ Ch g w wr ∧ w.heap.size ≤ wr.heap.size) (fun s5 _ => 40 - lenV s5)
    case atStart => exact ⟨0, _, _, [], _, rfl, rfl, by omega, Nat.le_refl _, by omega, HW2.out, rfl, sam_nile, HO2.out, HC2.out, HL2.out⟩
    case round =>
      obtain ⟨k, h, c3, L, V, hV, rfl, hc1, hc2, hk2, hown, hL, hS, hok, hch, hsz⟩ := hrel
      subst hV
      have HOV := Lib.hid hown
      have HLL := Lib.hid hL
      have HSS := Lib.hid hS
      have HOK := Lib.hid hok
      have HCH := Lib.hid hch
      have HSZ := Lib.hid hsz
      clear hown hL hS hok hch hsz
      rcases Nat.lt_or_ge k 33 with hlt | hge
      · have kk : (k : Int) ≤ 32 := by omega
        go_wp2_with fail
        go_at_call 20
        refine (n_any g 9 (by decide) (by decide) _ HOK.out).mono ?_
        rintro e w3 ⟨y, rfl, y0, y1, ho, hc⟩
        have HO3 := Lib.hid (own_ch HOV.out hc HGB.out)
        have HK3 := Lib.hid ho
        have HC3 : Hid (Ch g w w3) := HCH.out.tr hc
        have hsz3 : w.heap.size ≤ w3.heap.size := HC3.out.sz
        clear ho hc
        go_wp2_with (at_builtin; refine list_app _ rfl _ _ rfl w.heap.size (.slice (some ⟨h, 0, none⟩) k c3) k L rfl (HO3.out.alloc _) ⟨w3.heap.size, 0, none⟩ 1 1 [y] rfl (zi_bk (L := [y]) (t := 3) (Bk.nw _ _ _) 1 rfl) (by omega) (by simp; omega) ?_; intro v' w5 h5 g5 hat5; obtain ⟨h', c', rfl, hc1', hc2'⟩ := row_form h5 (by omega))
        have hrow : ∀ b, (Value.slice (some ⟨h, 0, none⟩) k c3).ownBlock = some b → w.heap.size ≤ b := fun b e => (HO3.out.lt b e).1
        have HK5 : Hid (Ok w5 g) := ok_grown (HK3.out.bel (Bel.rf.al _)) g5 (fun b e => by have := hrow b e; have := HGB.out; omega)
        have HC5 : Hid (Ch g w w5) := ch_grown (HC3.out.al _) g5 hrow
        have HO5 := Lib.hid h5
        clear h5 g5 hat5 hrow
        go_roundw
        case rel => exact ⟨k + 1, h', c', L ++ [y], _, rfl, rfl, hc1', hc2', by omega, HO5.out, by simp [HLL.out], sam_snoc HSS.out (by omega) (by omega), HK5.out, HC5.out, HC5.out.sz⟩
        case measure => simp [lenV]; omega
      · have kk : ¬ (k : Int) ≤ 32 := by omega
        have kn : ¬ k ≤ 32 := by omega
        go_wp2
        go_ret
        exact ⟨some ⟨h, 0, none⟩, c3, k, L, rfl, ⟨by omega, hc1⟩, own_zi HOV.out HLL.out, sam_w HSS.out, fun ad e => by cases e; exact hc2, HOK.out, HCH.out⟩
  · have n0 : (x == 0) = false := by rw [beq_eq_false_iff_ne]; omega
    have n1 : (x == 1) = false := by rw [beq_eq_false_iff_ne]; omega
    have n2 : ¬ x = 0 := by omega
    have n3 : ¬ x = 1 := by omega
    go_wp2
    go_ret
    exact ⟨some ⟨w.heap.size, 0, none⟩, 0, 0, [], rfl, by omega, zi_none, wd_nil, fun ad e => by cases e; exact Nat.le_refl _, HO2.out, HC2.out⟩
/-- a list of samples, bent -/
theorem bent_list (g : Nat) (A : Option Addr) (m c : Nat) (M : List Int) (hm2 : m ≤ 900) (hM : Sam M) (w : World) (hz : Zi w A m M) (h : Ok w g) :
    Calls Try.prog 7 #[.pointer (some ⟨g, 0, none⟩), .slice A m c] w (SomeBent g m w) := by
  rcases Nat.eq_zero_or_pos m with rfl | hm
  · exact bent_zero g A c w h
  · obtain ⟨ad, rfl, _, _⟩ := hz.2 hm
    exact bent_any g ad m c M hm hm2 hM w hz h
/-- a list that the law holds, not longer than 240, outside of block g -/
def Ls (g : Nat) (V : World) (v : Value) : Prop := ∃ (A : Option Addr) (n c : Nat) (L : List Int), v = .slice A n c ∧ n ≤ c ∧ n ≤ 240 ∧ Zi V A n L ∧ (∀ ad, A = some ad → 0 < n → ad.block ≠ g)
theorem zi_chn {w w' : World} {A : Option Addr} {n g : Nat} {L : List Int} (h : Zi w A n L) (hc : Ch g w w') (hn : ∀ ad, A = some ad → 0 < n → ad.block ≠ g) : Zi w' A n L := ⟨h.1, fun h0 => (h.ch hc (fun ad e => hn ad e h0)).2 h0⟩
theorem Ls.bel {g : Nat} {V W : World} {v : Value} (h : Ls g V v) (hb : Bel V W) : Ls g W v := by
  obtain ⟨A, n, c, L, rfl, h1, h2, h3, h4⟩ := h
  exact ⟨A, n, c, L, rfl, h1, h2, h3.bel hb, h4⟩
theorem Ls.ch {g : Nat} {V W : World} {v : Value} (h : Ls g V v) (hc : Ch g V W) : Ls g W v := by
  obtain ⟨A, n, c, L, rfl, h1, h2, h3, h4⟩ := h
  exact ⟨A, n, c, L, rfl, h1, h2, zi_chn h3 hc h4, h4⟩
theorem Ls.bent {g m : Nat} {w w' : World} {e : Ending} (hg : g < w.heap.size) (hm : m ≤ 200) (h : SomeBent g m w e w') : ∃ A n c, e = .returned (.slice A n c) ∧ Ls g w' (.slice A n c) ∧ Ok w' g ∧ Ch g w w' := by
  obtain ⟨A, c, n, L, rfl, ⟨h1, h2⟩, h3, _, h4, h5, h6⟩ := h
  exact ⟨_, _, _, rfl, ⟨A, n, c, L, rfl, h2, by omega, h3, fun ad e _ => by have := h4 ad e; omega⟩, h5, h6⟩
theorem row_ls {g base T : Nat} {w : World} {v : Value} {L : List Int} (h : w.ownsRow base 3 1 v T (zs L)) (hL : L.length = T) (hg : g < base) :
    ∃ A c, v = .slice A T c ∧ Zi w A T L ∧ T ≤ c ∧ (∀ ad, A = some ad → 0 < T → ad.block ≠ g) := by
  rcases Nat.eq_zero_or_pos T with rfl | h0
  · obtain ⟨A, c, rfl, hz, _⟩ := row_zi h hL
    exact ⟨A, c, rfl, hz, by omega, fun ad _ h0 => by omega⟩
  · obtain ⟨b, c, rfl, h1, h2⟩ := row_form h h0
    exact ⟨_, c, rfl, own_zi h hL, h1, fun ad e _ => by cases e; show b ≠ g; omega⟩
/-- Bent, behind some changes of the reader -/
theorem bent_ch (g : Nat) (A : Option Addr) (m c : Nat) (M : List Int) (hm : m ≤ 200) (hM : Sam M) (v : World) (hgv : g < v.heap.size) (hz : Zi v A m M) (hn : ∀ ad, A = some ad → 0 < m → ad.block ≠ g) :
    ∀ w, Ch g v w → Ok w g → Calls Try.prog 7 #[.pointer (some ⟨g, 0, none⟩), .slice A m c] w fun e w' => ∃ A' n' c', e = .returned (.slice A' n' c') ∧ Ls g w' (.slice A' n' c') ∧ Ok w' g ∧ Ch g w w' := fun w hc h =>
  (bent_list g A m c M (by omega) hM w (zi_chn hz hc hn) h).mono fun e w' hr => Ls.bent (by have := hc.sz; omega) hm hr
/-- a row of such lists -/
def Lrow (g : Nat) (V : World) (B n : Nat) : Prop := g < B ∧ ∀ j, j < n → ∃ v, V.cell? ⟨B, j, none⟩ = some v ∧ Ls g V v
theorem Lrow.bel {g B n : Nat} {V W : World} (h : Lrow g V B n) (hb : Bel V W) : Lrow g W B n := ⟨h.1, fun j hj => by
  obtain ⟨v, h1, h2⟩ := h.2 j hj
  exact ⟨v, hb.kp h1, h2.bel hb⟩⟩
theorem Lrow.ch {g B n : Nat} {V W : World} (h : Lrow g V B n) (hc : Ch g V W) : Lrow g W B n := ⟨h.1, fun j hj => by
  obtain ⟨v, h1, h2⟩ := h.2 j hj
  exact ⟨v, hc.kp h1 (by show B ≠ g; have := h.1; omega), h2.ch hc⟩⟩
theorem new_row {g : Nat} {v s : World} (hc : Ch g v s) (hok : Ok s g) (vs : List Value) (t : TypeId) (hv : ∀ u ∈ vs, Ls g s u) :
    Lrow g (s.alloc (.cells vs.toArray t)) s.heap.size vs.length ∧ Ok (s.alloc (.cells vs.toArray t)) g ∧ Ch g v (s.alloc (.cells vs.toArray t)) := by
  refine ⟨⟨hok.lt, fun j hj => ?_⟩, hok.bel (Bel.rf.al _), hc.al _⟩
  refine ⟨vs.getD j undef, ?_, (hv _ ?_).bel (Bel.rf.al _)⟩
  · have h : Bk (s.alloc (.cells vs.toArray t)) s.heap.size t vs.toArray := Bk.nw _ _ _
    rw [h.cell j]
    simp [List.getD_eq_getElem?_getD, hj]
  · rw [List.getD_eq_getElem?_getD, List.getElem?_eq_getElem hj]; exact List.getElem_mem hj
/-- an argument of the law -/
theorem arg_zi {w : World} {a : Option Addr} {len cap : Nat} {z : List Int}
    (h : (a = none ∧ len = 0 ∧ cap = 0 ∧ z = []) ∨ ∃ x, a = some x ∧ len ≤ cap ∧ cap ≤ maxLen ∧ z.length = cap ∧ (∀ i, i < z.length → w.cell? (x.add i) = some (.int .i64 (z.getD i 0))) ∧ ∀ n ∈ z, (Lit.int .i64 n).wf = true) :
    Zi w a len (z.take len) ∧ len ≤ cap ∧ ∀ ad, a = some ad → 0 < len → ad.block < w.heap.size := by
  rcases h with ⟨rfl, rfl, rfl, rfl⟩ | ⟨x, rfl, h1, h2, h3, h4, h5⟩
  · exact ⟨⟨rfl, fun h => by omega⟩, Nat.le_refl _, fun ad e => by cases e⟩
  · have hb : 0 < len → x.block < w.heap.size := fun h0 => by
      have := World.block_lt_of_cell? w _ (h4 0 (by omega))
      simpa [Addr.add] using this
    refine ⟨⟨by rw [List.length_take]; omega, fun h0 => ⟨x, rfl, hb h0, fun j hj => ?_⟩⟩, h1, fun ad e h0 => by cases e; exact hb h0⟩
    rw [h4 j (by omega)]
    simp [List.getD_eq_getElem?_getD, hj]
end Go.Proofs.Ytkonknkoggfeaaa.Sr
