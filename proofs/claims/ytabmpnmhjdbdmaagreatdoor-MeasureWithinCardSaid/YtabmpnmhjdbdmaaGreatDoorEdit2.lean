/- The contract of edit.fill: the table of the least costs. -/
import Derived.Test.YtabmpnmhjdbdmaaGreatDoorEdit1
import Derived.Deep.MidRow
import Derived.Laws.Rows
import Derived.Laws.ResultCell
namespace Go.Proofs.YtabmpnmhjdbdmaaGreatDoor.Ed
open Go.ChangeShapes Go.WideShapes Go.RowKit Wo Sr Wi
set_option linter.unusedVariables false
/-- a new variable of a long array type -/
theorem wpList_alloc_big {P : Program} (w : World) {ops : Array Oper} {rest : List Oper} {o : Oper} {a : Act} {Q : Exit → Act → World → Prop} (hgd : o.guard = none) (ty : TypeId) (ho : o.op = .alloc ty)
    (cs : Array Value) (hz : (P.info? ty).map (·.zero) = some (some (.agg cs))) (h : wpList P ops Q rest (a.put o.dst (.pointer (some ⟨w.heap.size, 0, none⟩))) (w.alloc (.cells cs ty))) : wpList P ops Q (o :: rest) a w := by
  refine wpList_plain hgd fun K hK => ?_
  obtain ⟨i, hi, hzz⟩ := Option.map_eq_some_iff.1 hz
  have hr : (Instr.alloc ty true (.tuple #[])).run P w = .ok (.pointer (some ⟨w.heap.size, 0, none⟩)) (w.alloc (.cells cs ty)) := by
    simp [Instr.alloc, zeroValue, typeInfo, hi, hzz, newVar, newRow, Value.cells, Sem.run_bind]
  unfold Oper.wp
  simp [execOp, ho, hr, Result.andThen]
  exact hK _ _ h
theorem bk_setCells_aux {g : Nat} {t : TypeId} (vs : List Value) : ∀ (o : Nat) (w : World) (cs : Array Value), Bk w g t cs → o + vs.length ≤ cs.size →
    ∃ cs', Bk (w.setCells g o vs) g t cs' ∧ cs'.size = cs.size ∧ (∀ j, j < vs.length → cs'[o + j]? = vs[j]?) ∧ ∀ j, j < o → cs'[j]? = cs[j]? := by
  induction vs with
  | nil => intro o w cs h hl; exact ⟨cs, h, rfl, fun j hj => by simp at hj, fun _ _ => rfl⟩
  | cons v vs ih =>
    intro o w cs h hl
    simp only [List.length_cons] at hl
    obtain ⟨cs', h1, h2, h3, h4⟩ := ih (o + 1) (w.setCell ⟨g, o, none⟩ v) (cs.setIfInBounds o v) (h.st o v) (by simp; omega)
    refine ⟨cs', h1, by simpa using h2, fun j hj => ?_, fun j hj => ?_⟩
    · rcases Nat.eq_zero_or_pos j with h0 | h0
      · subst h0
        rw [Nat.add_zero, h4 o (by omega)]
        have : o < cs.size := by omega
        simp [this]
      · obtain ⟨k, rfl⟩ : ∃ k, j = k + 1 := ⟨j - 1, by omega⟩
        rw [show o + (k + 1) = o + 1 + k by omega, h3 k (by simp at hj; omega)]
        simp
    · rw [h4 j (by omega), Array.getElem?_setIfInBounds_ne (by omega)]
theorem bk_setCells {g : Nat} {t : TypeId} {w : World} {cs ds : Array Value} (h : Bk w g t cs) (hs : ds.size = cs.size) : Bk (w.setCells g 0 ds.toList) g t ds := by
  obtain ⟨cs', h1, h2, h3, h4⟩ := bk_setCells_aux ds.toList 0 w cs h (by simp; omega)
  have : cs' = ds := by
    apply Array.ext_getElem?
    intro i
    rcases Nat.lt_or_ge i ds.size with hi | hi
    · have := h3 i (by simpa using hi)
      simpa using this
    · rw [Array.getElem?_eq_none (by omega), Array.getElem?_eq_none hi]
  rwa [this] at h1
theorem setCells_far {g : Nat} (vs : List Value) : ∀ (o : Nat) (w : World) (k : Nat), k ≠ g → (w.setCells g o vs).heap[k]? = w.heap[k]? := by
  induction vs with
  | nil => intro o w k h; rfl
  | cons v vs ih => intro o w k h; exact (ih (o + 1) _ k h).trans (Below.heap_setCell w ⟨g, o, none⟩ v k h)
theorem setCells_same {g : Nat} (vs : List Value) : ∀ (o : Nat) (w : World), (w.setCells g o vs).os = w.os ∧ (w.setCells g o vs).tape = w.tape ∧ (w.setCells g o vs).output = w.output ∧ (w.setCells g o vs).heap.size = w.heap.size := by
  induction vs with
  | nil => intro o w; exact ⟨rfl, rfl, rfl, rfl⟩
  | cons v vs ih =>
    intro o w
    obtain ⟨a, b, c, d⟩ := ih (o + 1) (w.setCell ⟨g, o, none⟩ v)
    exact ⟨a, b, c, d.trans (by simp [World.setCell])⟩
theorem bel_setCells {a b : World} {g : Nat} (h : Bel a b) (hg : a.heap.size ≤ g) (vs : List Value) : Bel a (b.setCells g 0 vs) := by
  obtain ⟨x, y, z, s⟩ := setCells_same (g := g) vs 0 b
  exact ⟨x.trans h.bl.os, y.trans h.bl.tape, z.trans h.bl.output, by rw [s]; exact h.size, fun k hk => (setCells_far vs 0 b k (by omega)).trans (h.bl.block k hk)⟩
theorem bk_there {g : Nat} {t : TypeId} {w : World} {cs : Array Value} (h : Bk w g t cs) : w.there g 0 cs.size := fun j hj => by
  rw [Nat.zero_add]
  exact ⟨by rw [h.cell j]; simp [hj], h.fr j⟩
/-- a store of a whole long array into a variable of its own -/
theorem wpList_store_big {P : Program} {ops : Array Oper} {rest : List Oper} {op : Oper} {a : Act} {w : World} {Q : Exit → Act → World → Prop} (hgd : op.guard = none) (ty : TypeId) (x y : Operand) (ho : op.op = .store ty x y)
    (g : Nat) (cells cs : Array Value) (t : TypeId) (hx : a.eval x = .pointer (some ⟨g, 0, none⟩)) (hy : a.eval y = .agg cells) (hb : Bk w g t cs) (hs : cells.size = cs.size)
    (hi : (P.info? ty).map (·.size) = some cells.size) (h1 : cells.all (·.oneCell') = true)
    (h : ∀ w', Hid (Bk w' g t cells) → Hid (∀ b, Bel b w → b.heap.size ≤ g → Bel b w') → wpList P ops Q rest (a.put op.dst undef) w') : wpList P ops Q (op :: rest) a w :=
  wpList_store_mid hgd ty x y ho g 0 cells hx hy (by rw [hs]; exact bk_there hb) hi h1 (h _ (bk_setCells hb hs) (fun b hbb hg => bel_setCells hbb hg _))
def zc : Array Value := (zs (List.replicate 1089 0)).toArray
theorem zc_size : zc.size = 1089 := by unfold zc; rw [List.size_toArray, zs_len, List.length_replicate]
theorem zc_at (k : Nat) (hk : k < 1089) : zc[k]? = some (.int .i64 0) := by
  have h : k < (List.replicate 1089 (0 : Int)).length := by rw [List.length_replicate]; exact hk
  unfold zc
  rw [List.getElem?_toArray, zs_at h, List.getD_eq_getElem?_getD, List.getElem?_replicate, if_pos hk]; rfl
theorem zero_tab : (Tryz.prog.info? 79).map (·.zero) = some (some (.agg zc)) := by kernel_rfl
theorem size_tab : (Tryz.prog.info? 79).map (·.size) = some 1089 := by kernel_rfl
/-- cells of numbers, 33 rows of 33 -/
def Tb (cs : Array Value) : Prop := cs.size = 1089 ∧ ∀ k, k < 1089 → ∃ x : Int, cs[k]? = some (.int .i64 x)
/-- where D holds the least costs are filled in -/
def Dn (X Y : List Int) (g : Int) (D : Nat → Nat → Prop) (cs : Array Value) : Prop := ∀ i j, i ≤ 32 → j ≤ 32 → D i j → cs[i * 33 + j]? = some (.int .i64 (et X Y g i j))
theorem Tb.one {cs : Array Value} (h : Tb cs) : cs.all (·.oneCell') = true := by
  apply Array.all_eq_true.2
  intro i hi
  obtain ⟨x, hx⟩ := h.2 i (by have := h.1; omega)
  rw [Array.getElem?_eq_getElem hi] at hx
  injection hx with hx
  rw [hx]; rfl
theorem tb_zero : Tb zc := ⟨zc_size, fun k hk => ⟨0, zc_at k hk⟩⟩
theorem Tb.set {cs : Array Value} (h : Tb cs) (k : Nat) (x : Int) : Tb (cs.setIfInBounds k (.int .i64 x)) := by
  refine ⟨by rw [Array.size_setIfInBounds]; exact h.1, fun i hi => ?_⟩
  rw [Array.getElem?_setIfInBounds]
  split
  · rw [if_pos (by have := h.1; omega)]; exact ⟨x, rfl⟩
  · exact h.2 i hi
theorem Dn.set {X Y : List Int} {g : Int} {D D' : Nat → Nat → Prop} {cs : Array Value} (ht : Tb cs) (h : Dn X Y g D cs) {a b : Nat} (ha : a ≤ 32) (hb : b ≤ 32) (hD : ∀ i j, D' i j → D i j ∨ (i = a ∧ j = b)) : Dn X Y g D' (cs.setIfInBounds (a * 33 + b) (.int .i64 (et X Y g a b))) := by
  intro i j hi hj hd
  rw [Array.getElem?_setIfInBounds]
  rcases Classical.em (a * 33 + b = i * 33 + j) with e | e
  · obtain rfl : i = a := by omega
    obtain rfl : j = b := by omega
    rw [if_pos rfl, if_pos (by have := ht.1; omega)]
  · rw [if_neg e]
    rcases hD i j hd with h1 | ⟨rfl, rfl⟩
    · exact h i j hi hj h1
    · exact absurd rfl e
/-- the state of the table in its block -/
def FI (X Y : List Int) (g : Int) (D : Nat → Nat → Prop) (w wr : World) : Prop := ∃ cs, Bk wr (w.heap.size + 1) 79 cs ∧ Tb cs ∧ Dn X Y g D cs ∧ Bk wr w.heap.size 79 zc ∧ Bel w wr
theorem FI.at {X Y : List Int} {g : Int} {D : Nat → Nat → Prop} {w wr : World} (h : FI X Y g D w wr) {i j : Nat} (hi : i ≤ 32) (hj : j ≤ 32) (hd : D i j) : wr.cell? ⟨w.heap.size + 1, i * 33 + j, none⟩ = some (.int .i64 (et X Y g i j)) := by
  obtain ⟨cs, h1, h2, h3, _⟩ := h
  rw [h1.cell]; exact h3 i j hi hj hd
theorem FI.some {X Y : List Int} {g : Int} {D : Nat → Nat → Prop} {w wr : World} (h : FI X Y g D w wr) {i j : Nat} (hi : i ≤ 32) (hj : j ≤ 32) : ∃ x : Int, wr.cell? ⟨w.heap.size + 1, i * 33 + j, none⟩ = some (.int .i64 x) := by
  obtain ⟨cs, h1, h2, _⟩ := h
  obtain ⟨x, hx⟩ := h2.2 (i * 33 + j) (by omega)
  exact ⟨x, by rw [h1.cell]; exact hx⟩
theorem FI.fr {X Y : List Int} {g : Int} {D : Nat → Nat → Prop} {w wr : World} (h : FI X Y g D w wr) (k : Nat) : wr.frozen? ⟨w.heap.size + 1, k, none⟩ = false := by
  obtain ⟨cs, h1, _⟩ := h
  exact h1.fr k
theorem FI.bel {X Y : List Int} {g : Int} {D : Nat → Nat → Prop} {w wr : World} (h : FI X Y g D w wr) : Bel w wr := by
  obtain ⟨cs, _, _, _, _, h5⟩ := h
  exact h5
theorem FI.drw {X Y : List Int} {g : Int} {D : Nat → Nat → Prop} {w wr : World} (h : FI X Y g D w wr) : FI X Y g D w wr.drew := by
  obtain ⟨cs, h1, h2, h3, h4, h5⟩ := h
  exact ⟨cs, h1.drw, h2, h3, h4.drw, h5.drw⟩
theorem FI.set {X Y : List Int} {g : Int} {D D' : Nat → Nat → Prop} {w wr : World} (h : FI X Y g D w wr) {a b : Nat} {x : Int} (ha : a ≤ 32) (hb : b ≤ 32) (hx : et X Y g a b = x) (hD : ∀ i j, D' i j → D i j ∨ (i = a ∧ j = b)) : FI X Y g D' w (wr.setCell ⟨w.heap.size + 1, a * 33 + b, none⟩ (.int .i64 x)) := by
  obtain ⟨cs, h1, h2, h3, h4, h5⟩ := h
  subst hx
  exact ⟨_, h1.st _ _, h2.set _ _, h3.set h2 ha hb hD, h4.far (by show w.heap.size ≠ w.heap.size + 1; omega) _, h5.st (by show _ ≤ w.heap.size + 1; omega) _⟩
theorem FI.weak {X Y : List Int} {g : Int} {D D' : Nat → Nat → Prop} {w wr : World} (h : FI X Y g D w wr) (hD : ∀ i j, i ≤ 32 → j ≤ 32 → D' i j → D i j) : FI X Y g D' w wr := by
  obtain ⟨cs, h1, h2, h3, h4⟩ := h
  exact ⟨cs, h1, h2, fun i j hi hj hd => h3 i j hi hj (hD i j hi hj hd), h4⟩
theorem mn3_if (a b c : Int) : mn3 a b c = (if c < if b < a then b else a then c else if b < a then b else a) := by
  unfold mn3 mn
  (repeat' split) <;> omega
theorem kp_st {W : World} {b i j : Nat} {v : Value} (h : W.cell? ⟨b, i, none⟩ = some v) (hne : i ≠ j) (u : Value) : (W.setCell ⟨b, j, none⟩ u).cell? ⟨b, i, none⟩ = some v :=
  (World.cell?_setCell_other _ _ _ _ (fun e => by have := congrArg Addr.off e; simp at this; omega)).trans h
/-- a table that is full -/
def Full (X Y : List Int) (g : Int) (n m : Nat) (cs : Array Value) : Prop := Tb cs ∧ Dn X Y g (fun i j => i ≤ n ∧ j ≤ m) cs
def D1 (t : Nat) (i j : Nat) : Prop := j = 0 ∧ i ≤ t
def D2 (n t : Nat) (i j : Nat) : Prop := (j = 0 ∧ i ≤ n) ∨ (i = 0 ∧ j ≤ t)
def D3 (n m t : Nat) (i j : Nat) : Prop := (j = 0 ∧ i ≤ n) ∨ (i = 0 ∧ j ≤ m) ∨ (i ≤ t ∧ j ≤ m)
def D4 (n m t s : Nat) (i j : Nat) : Prop := (j = 0 ∧ i ≤ n) ∨ (i = 0 ∧ j ≤ m) ∨ (i ≤ t ∧ j ≤ m) ∨ (i = t + 1 ∧ j ≤ s)
set_option maxHeartbeats 8000000 in
set_option maxRecDepth 100000 in
theorem fill_ok (A A' : Option Addr) (c c' n m : Nat) (L M : List Int) (g : Int) (n1 : 2 ≤ n) (n2 : n ≤ 32) (m1 : 2 ≤ m) (m2 : m ≤ 32) (g0 : -1000 ≤ g) (g1 : g ≤ 1000) (hs : Sam L) (ht : Sam M) (w : World) (h1 : Zi w A n L) (h2 : Zi w A' m M) :
    Calls Tryz.prog 55 #[.slice A n c, .slice A' m c', .int .i64 g] w fun e w' => ∃ cs, e = .returned (.agg cs) ∧ Full L M g n m cs ∧ Bel w w' := by
  have H1 := Lib.hid h1
  have H2 := Lib.hid h2
  have HS := Lib.hid hs
  have HT := Lib.hid ht
  have i1 : 2 ≤ (n : Int) := by omega
  have i2 : (n : Int) ≤ 32 := by omega
  have i3 : 2 ≤ (m : Int) := by omega
  have i4 : (m : Int) ≤ 32 := by omega
  have HE : Hid (∀ i j, i ≤ 32 → j ≤ 32 → 0 ≤ et L M g i j ∧ et L M g i j ≤ 128000) := fun i j hi hj => ⟨et_nn L M g _ i j rfl, by have := et_hi hs ht g0 g1 _ i j rfl; omega⟩
  have HR0 : Hid (∃ (t : Nat) (V : World), V = ((w.alloc (.cells zc 79)).alloc (.cells zc 79)) ∧ t ≤ n ∧ (Value.int .i64 0) = .int .i64 (t : Int) ∧ FI L M g (D1 t) w V) :=
    ⟨0, _, rfl, by omega, rfl, zc, Bk.nq _ _ _ (by simp), tb_zero, fun i j hi hj hd => by
      obtain ⟨rfl, h0⟩ := hd
      obtain rfl : i = 0 := by omega
      rw [et_00]
      exact zc_at 0 (by omega), (Bk.nw _ _ _).al _, (Bel.rf.al _).al _⟩
  clear h1 h2 hs ht
  go_enter Tryz.func55, Tryz.ntmps55
  go_wp2_with (refine wpList_alloc_big _ rfl 79 rfl zc zero_tab ?_)
  go_loopw [18] (fun s18 wr => ∃ (t : Nat) (V : World), V = wr ∧ t ≤ n ∧ s18 = .int .i64 (t : Int) ∧ FI L M g (D1 t) w wr) (fun s18 _ => n - (intOf s18).toNat)
  case atStart =>
    obtain ⟨t, V, rfl, h1, h2, h3⟩ := HR0.out
    exact ⟨t, _, rfl, h1, h2, h3⟩
  case round =>
    clear HR0
    obtain ⟨t, wr, hwr, ht, rfl, hf⟩ := hrel
    subst hwr
    have HF := Lib.hid hf
    rcases Nat.lt_or_ge t n with hlt | hge
    · obtain ⟨ad, rfl, _, hac⟩ := (H1.out.bel hf.bel).2 (by omega)
      have c1 := hac t hlt
      have px := HS.out.at t
      have ee := et_s0 L M g t
      obtain ⟨x, hx⟩ : ∃ x, L.getD t 0 = x := ⟨_, rfl⟩
      rw [hx] at c1 px ee
      obtain ⟨x0, x1⟩ := px
      have cA := hf.at (i := t) (j := 0) (by omega) (by omega) ⟨rfl, Nat.le_refl _⟩
      obtain ⟨q0, cB⟩ := hf.some (i := t + 1) (j := 0) (by omega) (by omega)
      have fB := hf.fr ((t + 1) * 33)
      have bp := HE.out t 0 (by omega) (by omega)
      have cA : wr.cell? ⟨w.heap.size + 1, t * 33, none⟩ = some (.int .i64 (et L M g t 0)) := cA
      have cB : wr.cell? ⟨w.heap.size + 1, (t + 1) * 33, none⟩ = some (.int .i64 q0) := cB
      obtain ⟨p, hp⟩ : ∃ p, et L M g t 0 = p := ⟨_, rfl⟩
      rw [hp] at cA bp ee
      obtain ⟨d, hd⟩ : ∃ d, x - g = d := ⟨_, rfl⟩
      rw [hd] at ee
      have hr := ab_in (x := d) (B := 2000) (by omega) (by omega)
      have HAB : Hid (∀ W, _) := fun W => abs_ok d (by omega) (by omega) W
      obtain ⟨r, hrr⟩ : ∃ r, ab d = r := ⟨_, rfl⟩
      rw [hrr] at hr HAB ee
      have HEQ := Lib.hid ee
      obtain ⟨p0, p1⟩ := bp
      obtain ⟨r0, r1⟩ := hr
      have d0 : -2000 ≤ d ∧ d ≤ 2000 := by omega
      obtain ⟨d0, d1⟩ := d0
      obtain ⟨t', ht'⟩ : ∃ t', t + 1 = t' := ⟨_, rfl⟩
      have hti : (t : Int) + 1 = (t' : Int) := by omega
      have tb : (t' : Int) ≤ 32 := by omega
      rw [ht'] at cB fB HEQ
      have ti : (t : Int) < (n : Int) := by omega
      have tj : (t : Int) < 33 := by omega
      have tk : (t' : Int) < 33 := by omega
      have tk2 : t' < 33 := by omega
      have tj2 : t < 33 := by omega
      have w1 : IntKind.i64.wrap (t' : Int) = (t' : Int) := IntWalk.i64_in _ (by omega)
      have w2 : IntKind.i64.wrap (x - g) = d := by rw [hd]; exact IntWalk.i64_in _ (by omega)
      have w3 : IntKind.i64.wrap d = d := IntWalk.i64_in _ (by omega)
      have w4 : IntKind.i64.wrap (p + r) = p + r := IntWalk.i64_in _ (by omega)
      have hne1 : t * 33 ≠ t' * 33 := by omega
      have HTT := Lib.hid (And.intro ht' (And.intro hx (And.intro hp hrr)))
      clear hf hac hx hp hrr ee ht'
      go_wp2
      go_region_held3 (fun w' => w'.cell? ⟨w.heap.size + 1, t * 33, none⟩ = some (.int .i64 p))
        (repeat (first | exact cA | (with_reducible refine kp_drwN ?_ _) | (with_reducible refine kp_drw ?_) | (with_reducible refine kp_st ?_ hne1 _)))
        (first | (go_at_call 66; refine (HAB.out _).mono ?_; rintro e' w9 ⟨rfl, rfl⟩))
      have HST : Hid (FI L M g (D1 t') w ((wr.setCell ⟨w.heap.size + 1, t' * 33, none⟩ (.int .i64 (p + r))).drew)) :=
        (HF.out.set (a := t') (b := 0) (by omega) (by omega) HEQ.out (fun i j hd => by obtain ⟨h1, h2⟩ := hd; rcases Nat.lt_or_ge t i with h | h; exact .inr ⟨by have := HTT.out.1; omega, h1⟩; exact .inl ⟨h1, h⟩)).drw
      have t'n : t' ≤ n := by have := HTT.out.1; omega
      have tm : n - t' < n - t := by have := HTT.out.1; omega
      go_wp2
      go_roundw
      case rel => exact ⟨t', _, rfl, t'n, by first | rfl | go_num, HST.out⟩
      case measure => simp [intOf]; omega
    · obtain rfl : t = n := by omega
      have HR1 : Hid (FI L M g (D2 t 0) w wr) := hf.weak (fun i j _ _ hd => by rcases hd with hd | hd; exact hd; exact ⟨by omega, by omega⟩)
      clear hf HF
      go_wp2
      go_loopw [39] (fun s39 wr => ∃ (s : Nat) (V : World), V = wr ∧ s ≤ m ∧ s39 = .int .i64 (s : Int) ∧ FI L M g (D2 t s) w wr) (fun s39 _ => m - (intOf s39).toNat)
      case atStart => exact ⟨0, _, rfl, by omega, rfl, HR1.out⟩
      case round =>
        clear HR1
        obtain ⟨s, wr, hwr, hsm, rfl, hf⟩ := hrel
        subst hwr
        have HF := Lib.hid hf
        rcases Nat.lt_or_ge s m with hlt2 | hge2
        · obtain ⟨ad, rfl, _, hac⟩ := (H2.out.bel hf.bel).2 (by omega)
          have c1 := hac s hlt2
          have px := HT.out.at s
          have ee := et_0s L M g s
          obtain ⟨x, hx⟩ : ∃ x, M.getD s 0 = x := ⟨_, rfl⟩
          rw [hx] at c1 px ee
          obtain ⟨x0, x1⟩ := px
          have cA := hf.at (i := 0) (j := s) (by omega) (by omega) (.inr ⟨rfl, Nat.le_refl _⟩)
          obtain ⟨q0, cB⟩ := hf.some (i := 0) (j := s + 1) (by omega) (by omega)
          have fB := hf.fr (s + 1)
          have bp := HE.out 0 s (by omega) (by omega)
          rw [show 0 * 33 + s = s by omega] at cA
          rw [show 0 * 33 + (s + 1) = s + 1 by omega] at cB
          obtain ⟨p, hp⟩ : ∃ p, et L M g 0 s = p := ⟨_, rfl⟩
          rw [hp] at cA bp ee
          obtain ⟨d, hd⟩ : ∃ d, x - g = d := ⟨_, rfl⟩
          rw [hd] at ee
          have hr := ab_in (x := d) (B := 2000) (by omega) (by omega)
          have HAB : Hid (∀ W, _) := fun W => abs_ok d (by omega) (by omega) W
          obtain ⟨r, hrr⟩ : ∃ r, ab d = r := ⟨_, rfl⟩
          rw [hrr] at hr HAB ee
          have HEQ := Lib.hid ee
          obtain ⟨p0, p1⟩ := bp
          obtain ⟨r0, r1⟩ := hr
          have d0 : -2000 ≤ d ∧ d ≤ 2000 := by omega
          obtain ⟨d0, d1⟩ := d0
          obtain ⟨s', ht'⟩ : ∃ s', s + 1 = s' := ⟨_, rfl⟩
          have hti : (s : Int) + 1 = (s' : Int) := by omega
          have tb : (s' : Int) ≤ 32 := by omega
          rw [ht'] at cB fB HEQ
          have ti : (s : Int) < (m : Int) := by omega
          have tj : (s : Int) < 33 := by omega
          have tk : (s' : Int) < 33 := by omega
          have tk2 : s' < 33 := by omega
          have tj2 : s < 33 := by omega
          have w1 : IntKind.i64.wrap (s' : Int) = (s' : Int) := IntWalk.i64_in _ (by omega)
          have w2 : IntKind.i64.wrap (x - g) = d := by rw [hd]; exact IntWalk.i64_in _ (by omega)
          have w3 : IntKind.i64.wrap d = d := IntWalk.i64_in _ (by omega)
          have w4 : IntKind.i64.wrap (p + r) = p + r := IntWalk.i64_in _ (by omega)
          have hne1 : s ≠ s' := by omega
          have HTT := Lib.hid (And.intro ht' (And.intro hx (And.intro hp hrr)))
          clear hf hac hx hp hrr ee ht'
          go_wp2
          go_region_held3 (fun w' => w'.cell? ⟨w.heap.size + 1, s, none⟩ = some (.int .i64 p))
            (repeat (first | exact cA | (with_reducible refine kp_drwN ?_ _) | (with_reducible refine kp_drw ?_) | (with_reducible refine kp_st ?_ hne1 _)))
            (first | (go_at_call 66; refine (HAB.out _).mono ?_; rintro e' w9 ⟨rfl, rfl⟩))
          have HST : Hid (FI L M g (D2 t s') w ((wr.setCell ⟨w.heap.size + 1, s', none⟩ (.int .i64 (p + r))).drew)) := by
            have h0 :=
            (HF.out.set (D' := D2 t s') (a := 0) (b := s') (by omega) (by omega) HEQ.out (fun i j hd => by rcases hd with hd | ⟨h1, h2⟩; exact .inl (.inl hd); rcases Nat.lt_or_ge s j with h | h; exact .inr ⟨h1, by have := HTT.out.1; omega⟩; exact .inl (.inr ⟨h1, h⟩))).drw
            rw [show 0 * 33 + s' = s' by omega] at h0
            exact h0
          have s'n : s' ≤ m := by have := HTT.out.1; omega
          have tm : m - s' < m - s := by have := HTT.out.1; omega
          go_wp2
          go_roundw
          case rel => exact ⟨s', _, rfl, s'n, by first | rfl | go_num, HST.out⟩
          case measure => simp [intOf]; omega
        · obtain rfl : s = m := by omega
          have HR2 : Hid (FI L M g (D3 t s 0) w wr) := hf.weak (fun i j _ _ hd => by rcases hd with hd | hd | hd; exact .inl hd; exact .inr hd; exact .inr ⟨by omega, hd.2⟩)
          clear hf HF
          go_wp2
          go_loopw [60] (fun s60 wr => ∃ (i : Nat) (V : World), V = wr ∧ i ≤ t ∧ s60 = .int .i64 (i : Int) ∧ FI L M g (D3 t s i) w wr) (fun s60 _ => t - (intOf s60).toNat)
          case atStart => exact ⟨0, _, rfl, by omega, rfl, HR2.out⟩
          case round =>
            clear HR2
            obtain ⟨i, wr, hwr, hit, rfl, hf⟩ := hrel
            subst hwr
            have HF := Lib.hid hf
            rcases Nat.lt_or_ge i t with hlt3 | hge3
            · obtain ⟨ad, rfl, _, hac⟩ := (H1.out.bel hf.bel).2 (by omega)
              have c1 := hac i hlt3
              have px := HS.out.at i
              obtain ⟨x, hx⟩ : ∃ x, L.getD i 0 = x := ⟨_, rfl⟩
              rw [hx] at c1 px
              obtain ⟨x0, x1⟩ := px
              have HX := Lib.hid hx
              have HR3 : Hid (FI L M g (D4 t s i 0) w wr) := hf.weak (fun p q _ _ hd => by
                rcases hd with hd | hd | hd | ⟨hd1, hd2⟩
                · exact .inl hd
                · exact .inr (.inl hd)
                · exact .inr (.inr hd)
                · exact .inl ⟨by omega, by omega⟩)
              have ti : (i : Int) < (t : Int) := by omega
              clear hf HF hx hac
              go_wp2
              go_loopw [67] (fun s67 wr => ∃ (j : Nat) (V : World), V = wr ∧ j ≤ s ∧ s67 = .int .i64 (j : Int) ∧ FI L M g (D4 t s i j) w wr) (fun s67 _ => s - (intOf s67).toNat)
              case atStart => exact ⟨0, _, rfl, by omega, rfl, HR3.out⟩
              case round =>
                clear HR3 c1
                obtain ⟨j, wr, hwr, hjs, rfl, hf⟩ := hrel
                subst hwr
                have HF := Lib.hid hf
                rcases Nat.lt_or_ge j s with hlt4 | hge4
                · obtain ⟨ad', rfl, _, hac'⟩ := (H2.out.bel hf.bel).2 (by omega)
                  have c2 := hac' j hlt4
                  have py := HT.out.at j
                  have ee := et_ss L M g i j
                  rw [HX.out] at ee
                  obtain ⟨y, hy⟩ : ∃ y, M.getD j 0 = y := ⟨_, rfl⟩
                  rw [hy] at c2 py ee
                  obtain ⟨y0, y1⟩ := py
                  have k1 := hf.at (i := i) (j := j) (by omega) (by omega) (.inr (.inr (.inl ⟨Nat.le_refl _, by omega⟩)))
                  have k2 := hf.at (i := i) (j := j + 1) (by omega) (by omega) (.inr (.inr (.inl ⟨Nat.le_refl _, by omega⟩)))
                  have k3 := hf.at (i := i + 1) (j := j) (by omega) (by omega) (.inr (.inr (.inr ⟨rfl, Nat.le_refl _⟩)))
                  obtain ⟨q0, cB⟩ := hf.some (i := i + 1) (j := j + 1) (by omega) (by omega)
                  have fB := hf.fr ((i + 1) * 33 + (j + 1))
                  have b1 := HE.out i j (by omega) (by omega)
                  have b2 := HE.out i (j + 1) (by omega) (by omega)
                  have b3 := HE.out (i + 1) j (by omega) (by omega)
                  obtain ⟨i', hi'⟩ : ∃ i', i + 1 = i' := ⟨_, rfl⟩
                  obtain ⟨j', hj'⟩ : ∃ j', j + 1 = j' := ⟨_, rfl⟩
                  rw [hi'] at k3 cB fB ee b3
                  rw [hj'] at k2 cB fB ee b2
                  obtain ⟨a0, ha0⟩ : ∃ p, et L M g i j = p := ⟨_, rfl⟩
                  obtain ⟨b0, hb0⟩ : ∃ p, et L M g i j' = p := ⟨_, rfl⟩
                  obtain ⟨c0, hc0⟩ : ∃ p, et L M g i' j = p := ⟨_, rfl⟩
                  rw [ha0] at k1 b1 ee
                  rw [hb0] at k2 b2 ee
                  rw [hc0] at k3 b3 ee
                  obtain ⟨d1, hd1⟩ : ∃ d, x - y = d := ⟨_, rfl⟩
                  obtain ⟨d2, hd2⟩ : ∃ d, x - g = d := ⟨_, rfl⟩
                  obtain ⟨d3, hd3⟩ : ∃ d, y - g = d := ⟨_, rfl⟩
                  rw [hd1, hd2, hd3] at ee
                  have br1 := ab_in (x := d1) (B := 2000) (by omega) (by omega)
                  have br2 := ab_in (x := d2) (B := 2000) (by omega) (by omega)
                  have br3 := ab_in (x := d3) (B := 2000) (by omega) (by omega)
                  have HAB1 : Hid (∀ W, _) := fun W => abs_ok d1 (by omega) (by omega) W
                  have HAB2 : Hid (∀ W, _) := fun W => abs_ok d2 (by omega) (by omega) W
                  have HAB3 : Hid (∀ W, _) := fun W => abs_ok d3 (by omega) (by omega) W
                  obtain ⟨r1, hr1⟩ : ∃ r, ab d1 = r := ⟨_, rfl⟩
                  rw [hr1] at br1 HAB1 ee
                  obtain ⟨r2, hr2⟩ : ∃ r, ab d2 = r := ⟨_, rfl⟩
                  rw [hr2] at br2 HAB2 ee
                  obtain ⟨r3, hr3⟩ : ∃ r, ab d3 = r := ⟨_, rfl⟩
                  rw [hr3] at br3 HAB3 ee
                  obtain ⟨q1, hq1⟩ : ∃ q, a0 + r1 = q := ⟨_, rfl⟩
                  obtain ⟨q2, hq2⟩ : ∃ q, b0 + r2 = q := ⟨_, rfl⟩
                  obtain ⟨q3, hq3⟩ : ∃ q, c0 + r3 = q := ⟨_, rfl⟩
                  rw [hq1, hq2, hq3] at ee
                  have HEQ := Lib.hid ee
                  have w1 : IntKind.i64.wrap d1 = d1 := IntWalk.i64_in _ (by omega)
                  have w2 : IntKind.i64.wrap d2 = d2 := IntWalk.i64_in _ (by omega)
                  have w3 : IntKind.i64.wrap d3 = d3 := IntWalk.i64_in _ (by omega)
                  have w4 : IntKind.i64.wrap q1 = q1 := IntWalk.i64_in _ (by omega)
                  have w5 : IntKind.i64.wrap q2 = q2 := IntWalk.i64_in _ (by omega)
                  have w6 : IntKind.i64.wrap q3 = q3 := IntWalk.i64_in _ (by omega)
                  have w7 : IntKind.i64.wrap (i' : Int) = (i' : Int) := IntWalk.i64_in _ (by omega)
                  have w8 : IntKind.i64.wrap (j' : Int) = (j' : Int) := IntWalk.i64_in _ (by omega)
                  have hii : (i : Int) + 1 = (i' : Int) := by omega
                  have hjj : (j : Int) + 1 = (j' : Int) := by omega
                  have f1 : (i' : Int) < 33 := by omega
                  have f2 : (j' : Int) < 33 := by omega
                  have f3 : i' < 33 := by omega
                  have f4 : j' < 33 := by omega
                  have f5 : (i : Int) < 33 := by omega
                  have f6 : (j : Int) < 33 := by omega
                  have f7 : i < 33 := by omega
                  have f8 : j < 33 := by omega
                  have hne1 : i * 33 + j ≠ i' * 33 + j' := by omega
                  have hne2 : i * 33 + j' ≠ i' * 33 + j' := by omega
                  have hne3 : i' * 33 + j ≠ i' * 33 + j' := by omega
                  have tj : (j : Int) < (s : Int) := by omega
                  have hjs2 : j' ≤ s := by omega
                  have hmm : s - j' < s - j := by omega
                  have i'32 : i' ≤ 32 := by omega
                  have j'32 : j' ≤ 32 := by omega
                  have HIJ : Hid (i + 1 = i' ∧ j + 1 = j') := ⟨hi', hj'⟩
                  have HLET := Lib.hid (And.intro hy (And.intro ha0 (And.intro hb0 (And.intro hc0 (And.intro hr1 (And.intro hr2 hr3))))))
                  clear hf hac' hy ha0 hb0 hc0 hr1 hr2 hr3 ee br1 br2 br3 b1 b2 b3 hi' hj'
                  go_wp2
                  go_region_held3 (fun w' => w'.cell? ⟨w.heap.size + 1, i * 33 + j, none⟩ = some (.int .i64 a0) ∧ w'.cell? ⟨w.heap.size + 1, i * 33 + j', none⟩ = some (.int .i64 b0) ∧ w'.cell? ⟨w.heap.size + 1, i' * 33 + j, none⟩ = some (.int .i64 c0))
                    ((refine ⟨?_, ?_, ?_⟩) <;> (repeat (first | exact k1 | exact k2 | exact k3 | (with_reducible refine kp_drwN ?_ _) | (with_reducible refine kp_drw ?_) | (with_reducible refine kp_st ?_ hne1 _) | (with_reducible refine kp_st ?_ hne2 _) | (with_reducible refine kp_st ?_ hne3 _))))
                    (first | (go_at_call 66; first
                      | ((with_reducible refine (HAB1.out _).mono ?_); rintro e' w9 ⟨rfl, rfl⟩)
                      | ((with_reducible refine (HAB2.out _).mono ?_); rintro e' w9 ⟨rfl, rfl⟩)
                      | ((with_reducible refine (HAB3.out _).mono ?_); rintro e' w9 ⟨rfl, rfl⟩)))
                  all_goals
                    have HST : Hid (FI L M g (D4 t s i j') w ((wr.setCell ⟨w.heap.size + 1, i' * 33 + j', none⟩ (.int .i64 (if q3 < if q2 < q1 then q2 else q1 then q3 else if q2 < q1 then q2 else q1))).drew)) :=
                      (HF.out.set (a := i') (b := j') i'32 j'32 (HEQ.out.trans (mn3_if q1 q2 q3)) (fun p q hd => by
                        obtain ⟨h1, h2⟩ := HIJ.out
                        rcases hd with hd | hd | hd | ⟨hd1, hd2⟩
                        · exact .inl (.inl hd)
                        · exact .inl (.inr (.inl hd))
                        · exact .inl (.inr (.inr (.inl hd)))
                        · rcases Nat.lt_or_ge j q with h | h
                          · exact .inr ⟨by omega, by omega⟩
                          · exact .inl (.inr (.inr (.inr ⟨hd1, h⟩))))).drw
                    go_wp2
                    go_roundw
                    case rel => exact ⟨j', _, rfl, hjs2, by first | rfl | go_num, HST.out⟩
                    case measure => simp [intOf]; omega
                · obtain rfl : j = s := by omega
                  have HR4 : Hid (FI L M g (D3 t j (i + 1)) w wr) := hf.weak (fun p q _ _ hd => by
                    rcases hd with hd | hd | ⟨hd1, hd2⟩
                    · exact .inl hd
                    · exact .inr (.inl hd)
                    · rcases Nat.lt_or_ge i p with h | h
                      · exact .inr (.inr (.inr ⟨by omega, hd2⟩))
                      · exact .inr (.inr (.inl ⟨h, hd2⟩)))
                  clear hf HF
                  go_wp2
                  go_roundw
                  case rel => exact ⟨i + 1, _, rfl, by omega, by go_num, HR4.out⟩
                  case measure => simp [intOf]; omega
            · obtain rfl : i = t := by omega
              obtain ⟨cs, hk, htb, hdn, hz, hb⟩ := hf
              have HK : Hid (Bk wr (w.heap.size + 1) 79 cs) := hk
              have HZ := Lib.hid hz
              have HB := Lib.hid hb
              have HTB := Lib.hid htb
              have HFU : Hid (Full L M g i s cs) := ⟨htb, fun p q hp hq hd => hdn p q hp hq (.inr (.inr hd))⟩
              have hsz := htb.1
              have HSZ := Lib.hid hsz
              have HTH := Lib.hid (bk_there hz)
              clear hk htb hdn hz hb HF
              go_wp2_with (first
                | (refine wpList_load_row rfl 79 _ rfl (w.heap.size + 1) rfl 79 cs (0, 0) _ HK.out Tryz.underlying79 rfl (by rw [size_tab, HSZ.out]) ?_)
                | (refine wpList_store_mid rfl 79 _ _ rfl w.heap.size 0 cs rfl rfl (by rw [HSZ.out]; have := HTH.out; rwa [zc_size] at this) (by rw [size_tab, HSZ.out]) HTB.out.one ?_))
              exact bodyPost_ret (v := .agg cs) (results_cell_row Tryz.results55 _ _ w.heap.size 79 cs (0, 0) _ rfl (bk_setCells HZ.out (by rw [HSZ.out, zc_size])) Tryz.underlying79 rfl (by rw [size_tab, HSZ.out])) rfl ⟨cs, rfl, HFU.out, bel_setCells HB.out (Nat.le_refl _) _⟩


end Go.Proofs.YtabmpnmhjdbdmaaGreatDoor.Ed
