/- Merged: Ref01 Edit2 Edit3 UnitScan UnitTake UnitParse TxtMath TxtRound Zi0 ResMath Rds UnitMath UnitConv RtM RtL Half Res1 Res2. -/
import Derived.Test.YtpbnabibnkohdaaGreatDoorRows
import Derived.Test.YtpbnabibnkohdaaGreatDoorGm1
import Derived.Test.YtpbnabibnkohdaaGreatDoorGm2
import Derived.Deep.MidRow
import Derived.Laws.Rows
import Derived.Laws.ResultCell
import Derived.WalkLawsBesides
import Derived.WalkSpells
import Derived.Outline
import Derived.IntWalk
import Derived.Deep.QuietTactic
import Derived.BigQuiet
import Derived.RegionTactic
import Derived.Lib.ItoaNum
import Derived.Lib.Repeat
import Derived.Lib.Strings
import Derived.Deep.RegionLaw
import Derived.Maps.AppendAt
import Derived.Below
import Derived.Lib.LaidTab
import Derived.Lib.Split
import Derived.Lib.SplitLaws
import Derived.Lib.SlTrimSet
import Derived.Lib.Atoi
namespace Go.Proofs.YtpbnabibnkohdaaGreatDoor.Ra
open Go.ChangeShapes Go.WideShapes Go.RowKit Wo
set_option linter.unusedVariables false
theorem cmpI_sub {x y u v : Int} (h : x - y = u - v) : cmpI x y = cmpI u v := by
  rcases Int.lt_trichotomy x y with g | g | g
  · rw [cmpI_lt g, cmpI_lt (by omega)]
  · rw [cmpI_eq g, cmpI_eq (by omega)]
  · rw [cmpI_gt g, cmpI_gt (by omega)]
theorem quot_lt {a b c d p q r s : Int} (hb : 1 ≤ b) (hd : 1 ≤ d) (ea : a = p * b + r) (ec : c = q * d + s) (r1 : r < b) (s0 : 0 ≤ s) (h : p < q) : a * d < c * b := by
  have h1 : (p + 1) * b ≤ q * b := Int.mul_le_mul_of_nonneg_right (by omega) (by omega)
  have h2 : (p + 1) * b = p * b + b := by grind
  have h3 : a < q * b := by omega
  have h4 : a * d < q * b * d := Int.mul_lt_mul_of_pos_right h3 (by omega)
  have h5 : c * b = q * b * d + s * b := by rw [ec]; grind
  have h6 : 0 ≤ s * b := Int.mul_nonneg s0 (by omega)
  omega
end Go.Proofs.YtpbnabibnkohdaaGreatDoor.Ra
namespace Go.Proofs.YtpbnabibnkohdaaGreatDoor.Ed
open Go.ChangeShapes Go.WideShapes Go.RowKit Wo Sr Wi
set_option linter.unusedVariables false
/-- a new variable of a long array type -/
theorem wpList_alloc_big {P : Program} (w : World) {ops : Array Oper} {rest : List Oper} {o : Oper} {a : Act} {Q : Exit → Act → World → Prop} (hgd : o.guard = none) (ty : TypeId) (ho : o.op = .alloc ty)
    (cs : Array Value) (hz : (P.info? ty).map (·.zero) = some (some (.agg cs))) (h : wpList P ops Q rest (a.put o.dst (.pointer (some ⟨w.heap.size, 0, none⟩))) (w.alloc (.cells cs ty))) : wpList P ops Q (o :: rest) a w := by
  refine wpList_plain hgd fun K hK => ?_
  obtain ⟨i, hi, hzz⟩ := Option.map_eq_some_iff.1 hz
  have hr : (Instr.alloc ty true (.tuple #[])).run P w = .ok (.pointer (some ⟨w.heap.size, 0, none⟩)) (w.alloc (.cells cs ty)) := by
    simp [Instr.alloc, zeroValue, typeInfo, hi, hzz, newVar, newRow, Value.cells, Sem.run_bind]
  unfold Oper.wp
  simp [execOp, ho, hr, Result.andThen]
  exact hK _ _ h
theorem bk_setCells_aux {g : Nat} {t : TypeId} (vs : List Value) : ∀ (o : Nat) (w : World) (cs : Array Value), Bk w g t cs → o + vs.length ≤ cs.size →
    ∃ cs', Bk (w.setCells g o vs) g t cs' ∧ cs'.size = cs.size ∧ (∀ j, j < vs.length → cs'[o + j]? = vs[j]?) ∧ ∀ j, j < o → cs'[j]? = cs[j]? := by
  induction vs with
  | nil => intro o w cs h hl; exact ⟨cs, h, rfl, fun j hj => by simp at hj, fun _ _ => rfl⟩
  | cons v vs ih =>
    intro o w cs h hl
    simp only [List.length_cons] at hl
    obtain ⟨cs', h1, h2, h3, h4⟩ := ih (o + 1) (w.setCell ⟨g, o, none⟩ v) (cs.setIfInBounds o v) (h.st o v) (by simp; omega)
    refine ⟨cs', h1, by simpa using h2, fun j hj => ?_, fun j hj => ?_⟩
    · rcases Nat.eq_zero_or_pos j with h0 | h0
      · subst h0
        rw [Nat.add_zero, h4 o (by omega)]
        have : o < cs.size := by omega
        simp [this]
      · obtain ⟨k, rfl⟩ : ∃ k, j = k + 1 := ⟨j - 1, by omega⟩
        rw [show o + (k + 1) = o + 1 + k by omega, h3 k (by simp at hj; omega)]
        simp
    · rw [h4 j (by omega), Array.getElem?_setIfInBounds_ne (by omega)]
theorem bk_setCells {g : Nat} {t : TypeId} {w : World} {cs ds : Array Value} (h : Bk w g t cs) (hs : ds.size = cs.size) : Bk (w.setCells g 0 ds.toList) g t ds := by
  obtain ⟨cs', h1, h2, h3, h4⟩ := bk_setCells_aux ds.toList 0 w cs h (by simp; omega)
  have : cs' = ds := by
    apply Array.ext_getElem?
    intro i
    rcases Nat.lt_or_ge i ds.size with hi | hi
    · have := h3 i (by simpa using hi)
      simpa using this
    · rw [Array.getElem?_eq_none (by omega), Array.getElem?_eq_none hi]
  rwa [this] at h1
theorem setCells_far {g : Nat} (vs : List Value) : ∀ (o : Nat) (w : World) (k : Nat), k ≠ g → (w.setCells g o vs).heap[k]? = w.heap[k]? := by
  induction vs with
  | nil => intro o w k h; rfl
  | cons v vs ih => intro o w k h; exact (ih (o + 1) _ k h).trans (Below.heap_setCell w ⟨g, o, none⟩ v k h)
theorem setCells_same {g : Nat} (vs : List Value) : ∀ (o : Nat) (w : World), (w.setCells g o vs).os = w.os ∧ (w.setCells g o vs).tape = w.tape ∧ (w.setCells g o vs).output = w.output ∧ (w.setCells g o vs).heap.size = w.heap.size := by
  induction vs with
  | nil => intro o w; exact ⟨rfl, rfl, rfl, rfl⟩
  | cons v vs ih =>
    intro o w
    obtain ⟨a, b, c, d⟩ := ih (o + 1) (w.setCell ⟨g, o, none⟩ v)
    exact ⟨a, b, c, d.trans (by simp [World.setCell])⟩
theorem bel_setCells {a b : World} {g : Nat} (h : Bel a b) (hg : a.heap.size ≤ g) (vs : List Value) : Bel a (b.setCells g 0 vs) := by
  obtain ⟨x, y, z, s⟩ := setCells_same (g := g) vs 0 b
  exact ⟨x.trans h.bl.os, y.trans h.bl.tape, z.trans h.bl.output, by rw [s]; exact h.size, fun k hk => (setCells_far vs 0 b k (by omega)).trans (h.bl.block k hk)⟩
theorem bk_there {g : Nat} {t : TypeId} {w : World} {cs : Array Value} (h : Bk w g t cs) : w.there g 0 cs.size := fun j hj => by
  rw [Nat.zero_add]
  exact ⟨by rw [h.cell j]; simp [hj], h.fr j⟩
/-- a store of a whole long array into a variable of its own -/
theorem wpList_store_big {P : Program} {ops : Array Oper} {rest : List Oper} {op : Oper} {a : Act} {w : World} {Q : Exit → Act → World → Prop} (hgd : op.guard = none) (ty : TypeId) (x y : Operand) (ho : op.op = .store ty x y)
    (g : Nat) (cells cs : Array Value) (t : TypeId) (hx : a.eval x = .pointer (some ⟨g, 0, none⟩)) (hy : a.eval y = .agg cells) (hb : Bk w g t cs) (hs : cells.size = cs.size)
    (hi : (P.info? ty).map (·.size) = some cells.size) (h1 : cells.all (·.oneCell') = true)
    (h : ∀ w', Hid (Bk w' g t cells) → Hid (∀ b, Bel b w → b.heap.size ≤ g → Bel b w') → wpList P ops Q rest (a.put op.dst undef) w') : wpList P ops Q (op :: rest) a w :=
  wpList_store_mid hgd ty x y ho g 0 cells hx hy (by rw [hs]; exact bk_there hb) hi h1 (h _ (bk_setCells hb hs) (fun b hbb hg => bel_setCells hbb hg _))
def zc : Array Value := (zs (List.replicate 1089 0)).toArray
theorem zc_size : zc.size = 1089 := by unfold zc; rw [List.size_toArray, zs_len, List.length_replicate]
theorem zc_at (k : Nat) (hk : k < 1089) : zc[k]? = some (.int .i64 0) := by
  have h : k < (List.replicate 1089 (0 : Int)).length := by rw [List.length_replicate]; exact hk
  unfold zc
  rw [List.getElem?_toArray, zs_at h, List.getD_eq_getElem?_getD, List.getElem?_replicate, if_pos hk]; rfl
theorem zero_tab : (Tryz.prog.info? 160).map (·.zero) = some (some (.agg zc)) := by kernel_rfl
theorem size_tab : (Tryz.prog.info? 160).map (·.size) = some 1089 := by kernel_rfl
/-- cells of numbers, 33 rows of 33 -/
def Tb (cs : Array Value) : Prop := cs.size = 1089 ∧ ∀ k, k < 1089 → ∃ x : Int, cs[k]? = some (.int .i64 x)
/-- where D holds the least costs are filled in -/
def Dn (X Y : List Int) (g : Int) (D : Nat → Nat → Prop) (cs : Array Value) : Prop := ∀ i j, i ≤ 32 → j ≤ 32 → D i j → cs[i * 33 + j]? = some (.int .i64 (et X Y g i j))
theorem Tb.one {cs : Array Value} (h : Tb cs) : cs.all (·.oneCell') = true := by
  apply Array.all_eq_true.2
  intro i hi
  obtain ⟨x, hx⟩ := h.2 i (by have := h.1; omega)
  rw [Array.getElem?_eq_getElem hi] at hx
  injection hx with hx
  rw [hx]; rfl
theorem tb_zero : Tb zc := ⟨zc_size, fun k hk => ⟨0, zc_at k hk⟩⟩
theorem Tb.set {cs : Array Value} (h : Tb cs) (k : Nat) (x : Int) : Tb (cs.setIfInBounds k (.int .i64 x)) := by
  refine ⟨by rw [Array.size_setIfInBounds]; exact h.1, fun i hi => ?_⟩
  rw [Array.getElem?_setIfInBounds]
  split
  · rw [if_pos (by have := h.1; omega)]; exact ⟨x, rfl⟩
  · exact h.2 i hi
theorem Dn.set {X Y : List Int} {g : Int} {D D' : Nat → Nat → Prop} {cs : Array Value} (ht : Tb cs) (h : Dn X Y g D cs) {a b : Nat} (ha : a ≤ 32) (hb : b ≤ 32) (hD : ∀ i j, D' i j → D i j ∨ (i = a ∧ j = b)) : Dn X Y g D' (cs.setIfInBounds (a * 33 + b) (.int .i64 (et X Y g a b))) := by
  intro i j hi hj hd
  rw [Array.getElem?_setIfInBounds]
  rcases Classical.em (a * 33 + b = i * 33 + j) with e | e
  · obtain rfl : i = a := by omega
    obtain rfl : j = b := by omega
    rw [if_pos rfl, if_pos (by have := ht.1; omega)]
  · rw [if_neg e]
    rcases hD i j hd with h1 | ⟨rfl, rfl⟩
    · exact h i j hi hj h1
    · exact absurd rfl e
/-- the state of the table in its block -/
def FI (X Y : List Int) (g : Int) (D : Nat → Nat → Prop) (w wr : World) : Prop := ∃ cs, Bk wr (w.heap.size + 1) 160 cs ∧ Tb cs ∧ Dn X Y g D cs ∧ Bk wr w.heap.size 160 zc ∧ Bel w wr
theorem FI.at {X Y : List Int} {g : Int} {D : Nat → Nat → Prop} {w wr : World} (h : FI X Y g D w wr) {i j : Nat} (hi : i ≤ 32) (hj : j ≤ 32) (hd : D i j) : wr.cell? ⟨w.heap.size + 1, i * 33 + j, none⟩ = some (.int .i64 (et X Y g i j)) := by
  obtain ⟨cs, h1, h2, h3, _⟩ := h
  rw [h1.cell]; exact h3 i j hi hj hd
theorem FI.some {X Y : List Int} {g : Int} {D : Nat → Nat → Prop} {w wr : World} (h : FI X Y g D w wr) {i j : Nat} (hi : i ≤ 32) (hj : j ≤ 32) : ∃ x : Int, wr.cell? ⟨w.heap.size + 1, i * 33 + j, none⟩ = some (.int .i64 x) := by
  obtain ⟨cs, h1, h2, _⟩ := h
  obtain ⟨x, hx⟩ := h2.2 (i * 33 + j) (by omega)
  exact ⟨x, by rw [h1.cell]; exact hx⟩
theorem FI.fr {X Y : List Int} {g : Int} {D : Nat → Nat → Prop} {w wr : World} (h : FI X Y g D w wr) (k : Nat) : wr.frozen? ⟨w.heap.size + 1, k, none⟩ = false := by
  obtain ⟨cs, h1, _⟩ := h
  exact h1.fr k
theorem FI.bel {X Y : List Int} {g : Int} {D : Nat → Nat → Prop} {w wr : World} (h : FI X Y g D w wr) : Bel w wr := by
  obtain ⟨cs, _, _, _, _, h5⟩ := h
  exact h5
theorem FI.drw {X Y : List Int} {g : Int} {D : Nat → Nat → Prop} {w wr : World} (h : FI X Y g D w wr) : FI X Y g D w wr.drew := by
  obtain ⟨cs, h1, h2, h3, h4, h5⟩ := h
  exact ⟨cs, h1.drw, h2, h3, h4.drw, h5.drw⟩
theorem FI.set {X Y : List Int} {g : Int} {D D' : Nat → Nat → Prop} {w wr : World} (h : FI X Y g D w wr) {a b : Nat} {x : Int} (ha : a ≤ 32) (hb : b ≤ 32) (hx : et X Y g a b = x) (hD : ∀ i j, D' i j → D i j ∨ (i = a ∧ j = b)) : FI X Y g D' w (wr.setCell ⟨w.heap.size + 1, a * 33 + b, none⟩ (.int .i64 x)) := by
  obtain ⟨cs, h1, h2, h3, h4, h5⟩ := h
  subst hx
  exact ⟨_, h1.st _ _, h2.set _ _, h3.set h2 ha hb hD, h4.far (by show w.heap.size ≠ w.heap.size + 1; omega) _, h5.st (by show _ ≤ w.heap.size + 1; omega) _⟩
theorem FI.weak {X Y : List Int} {g : Int} {D D' : Nat → Nat → Prop} {w wr : World} (h : FI X Y g D w wr) (hD : ∀ i j, i ≤ 32 → j ≤ 32 → D' i j → D i j) : FI X Y g D' w wr := by
  obtain ⟨cs, h1, h2, h3, h4⟩ := h
  exact ⟨cs, h1, h2, fun i j hi hj hd => h3 i j hi hj (hD i j hi hj hd), h4⟩
theorem mn3_if (a b c : Int) : mn3 a b c = (if c < if b < a then b else a then c else if b < a then b else a) := by
  unfold mn3 mn
  (repeat' split) <;> omega
theorem kp_st {W : World} {b i j : Nat} {v : Value} (h : W.cell? ⟨b, i, none⟩ = some v) (hne : i ≠ j) (u : Value) : (W.setCell ⟨b, j, none⟩ u).cell? ⟨b, i, none⟩ = some v :=
  (World.cell?_setCell_other _ _ _ _ (fun e => by have := congrArg Addr.off e; simp at this; omega)).trans h
/-- a table that is full -/
def Full (X Y : List Int) (g : Int) (n m : Nat) (cs : Array Value) : Prop := Tb cs ∧ Dn X Y g (fun i j => i ≤ n ∧ j ≤ m) cs
def D1 (t : Nat) (i j : Nat) : Prop := j = 0 ∧ i ≤ t
def D2 (n t : Nat) (i j : Nat) : Prop := (j = 0 ∧ i ≤ n) ∨ (i = 0 ∧ j ≤ t)
def D3 (n m t : Nat) (i j : Nat) : Prop := (j = 0 ∧ i ≤ n) ∨ (i = 0 ∧ j ≤ m) ∨ (i ≤ t ∧ j ≤ m)
def D4 (n m t s : Nat) (i j : Nat) : Prop := (j = 0 ∧ i ≤ n) ∨ (i = 0 ∧ j ≤ m) ∨ (i ≤ t ∧ j ≤ m) ∨ (i = t + 1 ∧ j ≤ s)
set_option maxHeartbeats 8000000 in
set_option maxRecDepth 100000 in
theorem fill_ok (A A' : Option Addr) (c c' n m : Nat) (L M : List Int) (g : Int) (n1 : 2 ≤ n) (n2 : n ≤ 32) (m1 : 2 ≤ m) (m2 : m ≤ 32) (g0 : -1000 ≤ g) (g1 : g ≤ 1000) (hs : Sam L) (ht : Sam M) (w : World) (h1 : Zi w A n L) (h2 : Zi w A' m M) :
    Calls Tryz.prog 106 #[.slice A n c, .slice A' m c', .int .i64 g] w fun e w' => ∃ cs, e = .returned (.agg cs) ∧ Full L M g n m cs ∧ Bel w w' := by
  have H1 := Lib.hid h1
  have H2 := Lib.hid h2
  have HS := Lib.hid hs
  have HT := Lib.hid ht
  have i1 : 2 ≤ (n : Int) := by omega
  have i2 : (n : Int) ≤ 32 := by omega
  have i3 : 2 ≤ (m : Int) := by omega
  have i4 : (m : Int) ≤ 32 := by omega
  have HE : Hid (∀ i j, i ≤ 32 → j ≤ 32 → 0 ≤ et L M g i j ∧ et L M g i j ≤ 128000) := fun i j hi hj => ⟨et_nn L M g _ i j rfl, by have := et_hi hs ht g0 g1 _ i j rfl; omega⟩
  have HR0 : Hid (∃ (t : Nat) (V : World), V = ((w.alloc (.cells zc 160)).alloc (.cells zc 160)) ∧ t ≤ n ∧ (Value.int .i64 0) = .int .i64 (t : Int) ∧ FI L M g (D1 t) w V) :=
    ⟨0, _, rfl, by omega, rfl, zc, Bk.nq _ _ _ (by simp), tb_zero, fun i j hi hj hd => by
      obtain ⟨rfl, h0⟩ := hd
      obtain rfl : i = 0 := by omega
      rw [et_00]
      exact zc_at 0 (by omega), (Bk.nw _ _ _).al _, (Bel.rf.al _).al _⟩
  clear h1 h2 hs ht
  go_enter Tryz.func106, Tryz.ntmps106
  go_wp2_with (refine wpList_alloc_big _ rfl 160 rfl zc zero_tab ?_)
  go_loopw [18] (fun s18 wr => ∃ (t : Nat) (V : World), V = wr ∧ t ≤ n ∧ s18 = .int .i64 (t : Int) ∧ FI L M g (D1 t) w wr) (fun s18 _ => n - (intOf s18).toNat)
  case atStart =>
    obtain ⟨t, V, rfl, h1, h2, h3⟩ := HR0.out
    exact ⟨t, _, rfl, h1, h2, h3⟩
  case round =>
    clear HR0
    obtain ⟨t, wr, hwr, ht, rfl, hf⟩ := hrel
    subst hwr
    have HF := Lib.hid hf
    rcases Nat.lt_or_ge t n with hlt | hge
    · obtain ⟨ad, rfl, _, hac⟩ := (H1.out.bel hf.bel).2 (by omega)
      have c1 := hac t hlt
      have px := HS.out.at t
      have ee := et_s0 L M g t
      obtain ⟨x, hx⟩ : ∃ x, L.getD t 0 = x := ⟨_, rfl⟩
      rw [hx] at c1 px ee
      obtain ⟨x0, x1⟩ := px
      have cA := hf.at (i := t) (j := 0) (by omega) (by omega) ⟨rfl, Nat.le_refl _⟩
      obtain ⟨q0, cB⟩ := hf.some (i := t + 1) (j := 0) (by omega) (by omega)
      have fB := hf.fr ((t + 1) * 33)
      have bp := HE.out t 0 (by omega) (by omega)
      have cA : wr.cell? ⟨w.heap.size + 1, t * 33, none⟩ = some (.int .i64 (et L M g t 0)) := cA
      have cB : wr.cell? ⟨w.heap.size + 1, (t + 1) * 33, none⟩ = some (.int .i64 q0) := cB
      obtain ⟨p, hp⟩ : ∃ p, et L M g t 0 = p := ⟨_, rfl⟩
      rw [hp] at cA bp ee
      obtain ⟨d, hd⟩ : ∃ d, x - g = d := ⟨_, rfl⟩
      rw [hd] at ee
      have hr := ab_in (x := d) (B := 2000) (by omega) (by omega)
      have HAB : Hid (∀ W, _) := fun W => abs_ok d (by omega) (by omega) W
      obtain ⟨r, hrr⟩ : ∃ r, ab d = r := ⟨_, rfl⟩
      rw [hrr] at hr HAB ee
      have HEQ := Lib.hid ee
      obtain ⟨p0, p1⟩ := bp
      obtain ⟨r0, r1⟩ := hr
      have d0 : -2000 ≤ d ∧ d ≤ 2000 := by omega
      obtain ⟨d0, d1⟩ := d0
      obtain ⟨t', ht'⟩ : ∃ t', t + 1 = t' := ⟨_, rfl⟩
      have hti : (t : Int) + 1 = (t' : Int) := by omega
      have tb : (t' : Int) ≤ 32 := by omega
      rw [ht'] at cB fB HEQ
      have ti : (t : Int) < (n : Int) := by omega
      have tj : (t : Int) < 33 := by omega
      have tk : (t' : Int) < 33 := by omega
      have tk2 : t' < 33 := by omega
      have tj2 : t < 33 := by omega
      have w1 : IntKind.i64.wrap (t' : Int) = (t' : Int) := IntWalk.i64_in _ (by omega)
      have w2 : IntKind.i64.wrap (x - g) = d := by rw [hd]; exact IntWalk.i64_in _ (by omega)
      have w3 : IntKind.i64.wrap d = d := IntWalk.i64_in _ (by omega)
      have w4 : IntKind.i64.wrap (p + r) = p + r := IntWalk.i64_in _ (by omega)
      have hne1 : t * 33 ≠ t' * 33 := by omega
      have HTT := Lib.hid (And.intro ht' (And.intro hx (And.intro hp hrr)))
      clear hf hac hx hp hrr ee ht'
      go_wp2
      go_region_held3 (fun w' => w'.cell? ⟨w.heap.size + 1, t * 33, none⟩ = some (.int .i64 p))
        (repeat (first | exact cA | (with_reducible refine kp_drwN ?_ _) | (with_reducible refine kp_drw ?_) | (with_reducible refine kp_st ?_ hne1 _)))
        (first | (go_at_call 47; refine (HAB.out _).mono ?_; rintro e' w9 ⟨rfl, rfl⟩))
      have HST : Hid (FI L M g (D1 t') w ((wr.setCell ⟨w.heap.size + 1, t' * 33, none⟩ (.int .i64 (p + r))).drew)) :=
        (HF.out.set (a := t') (b := 0) (by omega) (by omega) HEQ.out (fun i j hd => by obtain ⟨h1, h2⟩ := hd; rcases Nat.lt_or_ge t i with h | h; exact .inr ⟨by have := HTT.out.1; omega, h1⟩; exact .inl ⟨h1, h⟩)).drw
      have t'n : t' ≤ n := by have := HTT.out.1; omega
      have tm : n - t' < n - t := by have := HTT.out.1; omega
      go_wp2
      go_roundw
      case rel => exact ⟨t', _, rfl, t'n, by first | rfl | go_num, HST.out⟩
      case measure => simp [intOf]; omega
    · obtain rfl : t = n := by omega
      have HR1 : Hid (FI L M g (D2 t 0) w wr) := hf.weak (fun i j _ _ hd => by rcases hd with hd | hd; exact hd; exact ⟨by omega, by omega⟩)
      clear hf HF
      go_wp2
      go_loopw [39] (fun s39 wr => ∃ (s : Nat) (V : World), V = wr ∧ s ≤ m ∧ s39 = .int .i64 (s : Int) ∧ FI L M g (D2 t s) w wr) (fun s39 _ => m - (intOf s39).toNat)
      case atStart => exact ⟨0, _, rfl, by omega, rfl, HR1.out⟩
      case round =>
        clear HR1
        obtain ⟨s, wr, hwr, hsm, rfl, hf⟩ := hrel
        subst hwr
        have HF := Lib.hid hf
        rcases Nat.lt_or_ge s m with hlt2 | hge2
        · obtain ⟨ad, rfl, _, hac⟩ := (H2.out.bel hf.bel).2 (by omega)
          have c1 := hac s hlt2
          have px := HT.out.at s
          have ee := et_0s L M g s
          obtain ⟨x, hx⟩ : ∃ x, M.getD s 0 = x := ⟨_, rfl⟩
          rw [hx] at c1 px ee
          obtain ⟨x0, x1⟩ := px
          have cA := hf.at (i := 0) (j := s) (by omega) (by omega) (.inr ⟨rfl, Nat.le_refl _⟩)
          obtain ⟨q0, cB⟩ := hf.some (i := 0) (j := s + 1) (by omega) (by omega)
          have fB := hf.fr (s + 1)
          have bp := HE.out 0 s (by omega) (by omega)
          rw [show 0 * 33 + s = s by omega] at cA
          rw [show 0 * 33 + (s + 1) = s + 1 by omega] at cB
          obtain ⟨p, hp⟩ : ∃ p, et L M g 0 s = p := ⟨_, rfl⟩
          rw [hp] at cA bp ee
          obtain ⟨d, hd⟩ : ∃ d, x - g = d := ⟨_, rfl⟩
          rw [hd] at ee
          have hr := ab_in (x := d) (B := 2000) (by omega) (by omega)
          have HAB : Hid (∀ W, _) := fun W => abs_ok d (by omega) (by omega) W
          obtain ⟨r, hrr⟩ : ∃ r, ab d = r := ⟨_, rfl⟩
          rw [hrr] at hr HAB ee
          have HEQ := Lib.hid ee
          obtain ⟨p0, p1⟩ := bp
          obtain ⟨r0, r1⟩ := hr
          have d0 : -2000 ≤ d ∧ d ≤ 2000 := by omega
          obtain ⟨d0, d1⟩ := d0
          obtain ⟨s', ht'⟩ : ∃ s', s + 1 = s' := ⟨_, rfl⟩
          have hti : (s : Int) + 1 = (s' : Int) := by omega
          have tb : (s' : Int) ≤ 32 := by omega
          rw [ht'] at cB fB HEQ
          have ti : (s : Int) < (m : Int) := by omega
          have tj : (s : Int) < 33 := by omega
          have tk : (s' : Int) < 33 := by omega
          have tk2 : s' < 33 := by omega
          have tj2 : s < 33 := by omega
          have w1 : IntKind.i64.wrap (s' : Int) = (s' : Int) := IntWalk.i64_in _ (by omega)
          have w2 : IntKind.i64.wrap (x - g) = d := by rw [hd]; exact IntWalk.i64_in _ (by omega)
          have w3 : IntKind.i64.wrap d = d := IntWalk.i64_in _ (by omega)
          have w4 : IntKind.i64.wrap (p + r) = p + r := IntWalk.i64_in _ (by omega)
          have hne1 : s ≠ s' := by omega
          have HTT := Lib.hid (And.intro ht' (And.intro hx (And.intro hp hrr)))
          clear hf hac hx hp hrr ee ht'
          go_wp2
          go_region_held3 (fun w' => w'.cell? ⟨w.heap.size + 1, s, none⟩ = some (.int .i64 p))
            (repeat (first | exact cA | (with_reducible refine kp_drwN ?_ _) | (with_reducible refine kp_drw ?_) | (with_reducible refine kp_st ?_ hne1 _)))
            (first | (go_at_call 47; refine (HAB.out _).mono ?_; rintro e' w9 ⟨rfl, rfl⟩))
          have HST : Hid (FI L M g (D2 t s') w ((wr.setCell ⟨w.heap.size + 1, s', none⟩ (.int .i64 (p + r))).drew)) := by
            have h0 :=
            (HF.out.set (D' := D2 t s') (a := 0) (b := s') (by omega) (by omega) HEQ.out (fun i j hd => by rcases hd with hd | ⟨h1, h2⟩; exact .inl (.inl hd); rcases Nat.lt_or_ge s j with h | h; exact .inr ⟨h1, by have := HTT.out.1; omega⟩; exact .inl (.inr ⟨h1, h⟩))).drw
            rw [show 0 * 33 + s' = s' by omega] at h0
            exact h0
          have s'n : s' ≤ m := by have := HTT.out.1; omega
          have tm : m - s' < m - s := by have := HTT.out.1; omega
          go_wp2
          go_roundw
          case rel => exact ⟨s', _, rfl, s'n, by first | rfl | go_num, HST.out⟩
          case measure => simp [intOf]; omega
        · obtain rfl : s = m := by omega
          have HR2 : Hid (FI L M g (D3 t s 0) w wr) := hf.weak (fun i j _ _ hd => by rcases hd with hd | hd | hd; exact .inl hd; exact .inr hd; exact .inr ⟨by omega, hd.2⟩)
          clear hf HF
          go_wp2
          go_loopw [60] (fun s60 wr => ∃ (i : Nat) (V : World), V = wr ∧ i ≤ t ∧ s60 = .int .i64 (i : Int) ∧ FI L M g (D3 t s i) w wr) (fun s60 _ => t - (intOf s60).toNat)
          case atStart => exact ⟨0, _, rfl, by omega, rfl, HR2.out⟩
          case round =>
            clear HR2
            obtain ⟨i, wr, hwr, hit, rfl, hf⟩ := hrel
            subst hwr
            have HF := Lib.hid hf
            rcases Nat.lt_or_ge i t with hlt3 | hge3
            · obtain ⟨ad, rfl, _, hac⟩ := (H1.out.bel hf.bel).2 (by omega)
              have c1 := hac i hlt3
              have px := HS.out.at i
              obtain ⟨x, hx⟩ : ∃ x, L.getD i 0 = x := ⟨_, rfl⟩
              rw [hx] at c1 px
              obtain ⟨x0, x1⟩ := px
              have HX := Lib.hid hx
              have HR3 : Hid (FI L M g (D4 t s i 0) w wr) := hf.weak (fun p q _ _ hd => by
                rcases hd with hd | hd | hd | ⟨hd1, hd2⟩
                · exact .inl hd
                · exact .inr (.inl hd)
                · exact .inr (.inr hd)
                · exact .inl ⟨by omega, by omega⟩)
              have ti : (i : Int) < (t : Int) := by omega
              clear hf HF hx hac
              go_wp2
              go_loopw [67] (fun s67 wr => ∃ (j : Nat) (V : World), V = wr ∧ j ≤ s ∧ s67 = .int .i64 (j : Int) ∧ FI L M g (D4 t s i j) w wr) (fun s67 _ => s - (intOf s67).toNat)
              case atStart => exact ⟨0, _, rfl, by omega, rfl, HR3.out⟩
              case round =>
                clear HR3 c1
                obtain ⟨j, wr, hwr, hjs, rfl, hf⟩ := hrel
                subst hwr
                have HF := Lib.hid hf
                rcases Nat.lt_or_ge j s with hlt4 | hge4
                · obtain ⟨ad', rfl, _, hac'⟩ := (H2.out.bel hf.bel).2 (by omega)
                  have c2 := hac' j hlt4
                  have py := HT.out.at j
                  have ee := et_ss L M g i j
                  rw [HX.out] at ee
                  obtain ⟨y, hy⟩ : ∃ y, M.getD j 0 = y := ⟨_, rfl⟩
                  rw [hy] at c2 py ee
                  obtain ⟨y0, y1⟩ := py
                  have k1 := hf.at (i := i) (j := j) (by omega) (by omega) (.inr (.inr (.inl ⟨Nat.le_refl _, by omega⟩)))
                  have k2 := hf.at (i := i) (j := j + 1) (by omega) (by omega) (.inr (.inr (.inl ⟨Nat.le_refl _, by omega⟩)))
                  have k3 := hf.at (i := i + 1) (j := j) (by omega) (by omega) (.inr (.inr (.inr ⟨rfl, Nat.le_refl _⟩)))
                  obtain ⟨q0, cB⟩ := hf.some (i := i + 1) (j := j + 1) (by omega) (by omega)
                  have fB := hf.fr ((i + 1) * 33 + (j + 1))
                  have b1 := HE.out i j (by omega) (by omega)
                  have b2 := HE.out i (j + 1) (by omega) (by omega)
                  have b3 := HE.out (i + 1) j (by omega) (by omega)
                  obtain ⟨i', hi'⟩ : ∃ i', i + 1 = i' := ⟨_, rfl⟩
                  obtain ⟨j', hj'⟩ : ∃ j', j + 1 = j' := ⟨_, rfl⟩
                  rw [hi'] at k3 cB fB ee b3
                  rw [hj'] at k2 cB fB ee b2
                  obtain ⟨a0, ha0⟩ : ∃ p, et L M g i j = p := ⟨_, rfl⟩
                  obtain ⟨b0, hb0⟩ : ∃ p, et L M g i j' = p := ⟨_, rfl⟩
                  obtain ⟨c0, hc0⟩ : ∃ p, et L M g i' j = p := ⟨_, rfl⟩
                  rw [ha0] at k1 b1 ee
                  rw [hb0] at k2 b2 ee
                  rw [hc0] at k3 b3 ee
                  obtain ⟨d1, hd1⟩ : ∃ d, x - y = d := ⟨_, rfl⟩
                  obtain ⟨d2, hd2⟩ : ∃ d, x - g = d := ⟨_, rfl⟩
                  obtain ⟨d3, hd3⟩ : ∃ d, y - g = d := ⟨_, rfl⟩
                  rw [hd1, hd2, hd3] at ee
                  have br1 := ab_in (x := d1) (B := 2000) (by omega) (by omega)
                  have br2 := ab_in (x := d2) (B := 2000) (by omega) (by omega)
                  have br3 := ab_in (x := d3) (B := 2000) (by omega) (by omega)
                  have HAB1 : Hid (∀ W, _) := fun W => abs_ok d1 (by omega) (by omega) W
                  have HAB2 : Hid (∀ W, _) := fun W => abs_ok d2 (by omega) (by omega) W
                  have HAB3 : Hid (∀ W, _) := fun W => abs_ok d3 (by omega) (by omega) W
                  obtain ⟨r1, hr1⟩ : ∃ r, ab d1 = r := ⟨_, rfl⟩
                  rw [hr1] at br1 HAB1 ee
                  obtain ⟨r2, hr2⟩ : ∃ r, ab d2 = r := ⟨_, rfl⟩
                  rw [hr2] at br2 HAB2 ee
                  obtain ⟨r3, hr3⟩ : ∃ r, ab d3 = r := ⟨_, rfl⟩
                  rw [hr3] at br3 HAB3 ee
                  obtain ⟨q1, hq1⟩ : ∃ q, a0 + r1 = q := ⟨_, rfl⟩
                  obtain ⟨q2, hq2⟩ : ∃ q, b0 + r2 = q := ⟨_, rfl⟩
                  obtain ⟨q3, hq3⟩ : ∃ q, c0 + r3 = q := ⟨_, rfl⟩
                  rw [hq1, hq2, hq3] at ee
                  have HEQ := Lib.hid ee
                  have w1 : IntKind.i64.wrap d1 = d1 := IntWalk.i64_in _ (by omega)
                  have w2 : IntKind.i64.wrap d2 = d2 := IntWalk.i64_in _ (by omega)
                  have w3 : IntKind.i64.wrap d3 = d3 := IntWalk.i64_in _ (by omega)
                  have w4 : IntKind.i64.wrap q1 = q1 := IntWalk.i64_in _ (by omega)
                  have w5 : IntKind.i64.wrap q2 = q2 := IntWalk.i64_in _ (by omega)
                  have w6 : IntKind.i64.wrap q3 = q3 := IntWalk.i64_in _ (by omega)
                  have w7 : IntKind.i64.wrap (i' : Int) = (i' : Int) := IntWalk.i64_in _ (by omega)
                  have w8 : IntKind.i64.wrap (j' : Int) = (j' : Int) := IntWalk.i64_in _ (by omega)
                  have hii : (i : Int) + 1 = (i' : Int) := by omega
                  have hjj : (j : Int) + 1 = (j' : Int) := by omega
                  have f1 : (i' : Int) < 33 := by omega
                  have f2 : (j' : Int) < 33 := by omega
                  have f3 : i' < 33 := by omega
                  have f4 : j' < 33 := by omega
                  have f5 : (i : Int) < 33 := by omega
                  have f6 : (j : Int) < 33 := by omega
                  have f7 : i < 33 := by omega
                  have f8 : j < 33 := by omega
                  have hne1 : i * 33 + j ≠ i' * 33 + j' := by omega
                  have hne2 : i * 33 + j' ≠ i' * 33 + j' := by omega
                  have hne3 : i' * 33 + j ≠ i' * 33 + j' := by omega
                  have tj : (j : Int) < (s : Int) := by omega
                  have hjs2 : j' ≤ s := by omega
                  have hmm : s - j' < s - j := by omega
                  have i'32 : i' ≤ 32 := by omega
                  have j'32 : j' ≤ 32 := by omega
                  have HIJ : Hid (i + 1 = i' ∧ j + 1 = j') := ⟨hi', hj'⟩
                  have HLET := Lib.hid (And.intro hy (And.intro ha0 (And.intro hb0 (And.intro hc0 (And.intro hr1 (And.intro hr2 hr3))))))
                  clear hf hac' hy ha0 hb0 hc0 hr1 hr2 hr3 ee br1 br2 br3 b1 b2 b3 hi' hj'
                  go_wp2
                  go_region_held3 (fun w' => w'.cell? ⟨w.heap.size + 1, i * 33 + j, none⟩ = some (.int .i64 a0) ∧ w'.cell? ⟨w.heap.size + 1, i * 33 + j', none⟩ = some (.int .i64 b0) ∧ w'.cell? ⟨w.heap.size + 1, i' * 33 + j, none⟩ = some (.int .i64 c0))
                    ((refine ⟨?_, ?_, ?_⟩) <;> (repeat (first | exact k1 | exact k2 | exact k3 | (with_reducible refine kp_drwN ?_ _) | (with_reducible refine kp_drw ?_) | (with_reducible refine kp_st ?_ hne1 _) | (with_reducible refine kp_st ?_ hne2 _) | (with_reducible refine kp_st ?_ hne3 _))))
                    (first | (go_at_call 47; first
                      | ((with_reducible refine (HAB1.out _).mono ?_); rintro e' w9 ⟨rfl, rfl⟩)
                      | ((with_reducible refine (HAB2.out _).mono ?_); rintro e' w9 ⟨rfl, rfl⟩)
                      | ((with_reducible refine (HAB3.out _).mono ?_); rintro e' w9 ⟨rfl, rfl⟩)))
                  all_goals
                    have HST : Hid (FI L M g (D4 t s i j') w ((wr.setCell ⟨w.heap.size + 1, i' * 33 + j', none⟩ (.int .i64 (if q3 < if q2 < q1 then q2 else q1 then q3 else if q2 < q1 then q2 else q1))).drew)) :=
                      (HF.out.set (a := i') (b := j') i'32 j'32 (HEQ.out.trans (mn3_if q1 q2 q3)) (fun p q hd => by
                        obtain ⟨h1, h2⟩ := HIJ.out
                        rcases hd with hd | hd | hd | ⟨hd1, hd2⟩
                        · exact .inl (.inl hd)
                        · exact .inl (.inr (.inl hd))
                        · exact .inl (.inr (.inr (.inl hd)))
                        · rcases Nat.lt_or_ge j q with h | h
                          · exact .inr ⟨by omega, by omega⟩
                          · exact .inl (.inr (.inr (.inr ⟨hd1, h⟩))))).drw
                    go_wp2
                    go_roundw
                    case rel => exact ⟨j', _, rfl, hjs2, by first | rfl | go_num, HST.out⟩
                    case measure => simp [intOf]; omega
                · obtain rfl : j = s := by omega
                  have HR4 : Hid (FI L M g (D3 t j (i + 1)) w wr) := hf.weak (fun p q _ _ hd => by
                    rcases hd with hd | hd | ⟨hd1, hd2⟩
                    · exact .inl hd
                    · exact .inr (.inl hd)
                    · rcases Nat.lt_or_ge i p with h | h
                      · exact .inr (.inr (.inr ⟨by omega, hd2⟩))
                      · exact .inr (.inr (.inl ⟨h, hd2⟩)))
                  clear hf HF
                  go_wp2
                  go_roundw
                  case rel => exact ⟨i + 1, _, rfl, by omega, by go_num, HR4.out⟩
                  case measure => simp [intOf]; omega
            · obtain rfl : i = t := by omega
              obtain ⟨cs, hk, htb, hdn, hz, hb⟩ := hf
              have HK : Hid (Bk wr (w.heap.size + 1) 160 cs) := hk
              have HZ := Lib.hid hz
              have HB := Lib.hid hb
              have HTB := Lib.hid htb
              have HFU : Hid (Full L M g i s cs) := ⟨htb, fun p q hp hq hd => hdn p q hp hq (.inr (.inr hd))⟩
              have hsz := htb.1
              have HSZ := Lib.hid hsz
              have HTH := Lib.hid (bk_there hz)
              clear hk htb hdn hz hb HF
              go_wp2_with (first
                | (refine wpList_load_row rfl 160 _ rfl (w.heap.size + 1) rfl 160 cs (0, 0) _ HK.out Tryz.underlying160 rfl (by rw [size_tab, HSZ.out]) ?_)
                | (refine wpList_store_mid rfl 160 _ _ rfl w.heap.size 0 cs rfl rfl (by rw [HSZ.out]; have := HTH.out; rwa [zc_size] at this) (by rw [size_tab, HSZ.out]) HTB.out.one ?_))
              exact bodyPost_ret (v := .agg cs) (results_cell_row Tryz.results106 _ _ w.heap.size 160 cs (0, 0) _ rfl (bk_setCells HZ.out (by rw [HSZ.out, zc_size])) Tryz.underlying160 rfl (by rw [size_tab, HSZ.out])) rfl ⟨cs, rfl, HFU.out, bel_setCells HB.out (Nat.le_refl _) _⟩


end Go.Proofs.YtpbnabibnkohdaaGreatDoor.Ed
namespace Go.Proofs.YtpbnabibnkohdaaGreatDoor.Ed
open Go.ChangeShapes Go.WideShapes Go.RowKit Wo Sr Wi
set_option linter.unusedVariables false
set_option maxHeartbeats 8000000 in
set_option maxRecDepth 100000 in
theorem distance_ok (A A' : Option Addr) (c c' n m : Nat) (L M : List Int) (g : Int) (n1 : 2 ≤ n) (n2 : n ≤ 32) (m1 : 2 ≤ m) (m2 : m ≤ 32) (g0 : -1000 ≤ g) (g1 : g ≤ 1000) (hs : Sam L) (ht : Sam M) (w : World) (h1 : Zi w A n L) (h2 : Zi w A' m M) :
    Calls Tryz.prog 76 #[.slice A n c, .slice A' m c', .int .i64 g] w fun e w' => e = .returned (.tuple #[.int .i64 (et L M g n m), .int .i64 0]) ∧ Bel w w' := by
  have HC := Lib.hid (check_ok A A' c c' n m L M g n1 n2 m1 m2 g0 g1 hs ht w h1 h2)
  have HF : Hid (∀ W, Bel w W → _) := fun W hW => fill_ok A A' c c' n m L M g n1 n2 m1 m2 g0 g1 hs ht W (h1.bel hW) (h2.bel hW)
  have i1 : (n : Int) < 33 := by omega
  have i2 : (m : Int) < 33 := by omega
  have i3 : n < 33 := by omega
  have i4 : m < 33 := by omega
  have i5 : n ≤ 32 := n2
  have i6 : m ≤ 32 := m2
  obtain ⟨D, hD⟩ : ∃ D, et L M g n m = D := ⟨_, rfl⟩
  rw [hD]
  have HD := Lib.hid hD
  clear h1 h2 hs ht hD
  go_enter Tryz.func76, Tryz.ntmps76
  go_wp2_with fail
  go_at_call 105
  refine HC.out.mono ?_
  rintro e w1 ⟨rfl, hb1⟩
  have HB1 := Lib.hid hb1
  clear hb1
  go_wp2_with fail
  go_at_call 106
  refine (HF.out _ HB1.out).mono ?_
  rintro e w2 ⟨cs, rfl, hfu, hb2⟩
  have HB2 := Lib.hid (HB1.out.tr hb2)
  have HTB : Hid (Tb cs) := hfu.1
  have HFC : Hid (cs[n * 33 + m]? = some (.int .i64 D)) := by rw [← HD.out]; exact hfu.2 n m n2 m2 ⟨Nat.le_refl _, Nat.le_refl _⟩
  have hcs : cs.size = zc.size := by rw [zc_size]; exact hfu.1.1
  have HCS := Lib.hid hcs
  have hcs2 : (Tryz.prog.info? 160).map (·.size) = some cs.size := by rw [size_tab, hfu.1.1]
  have HC2 := Lib.hid hcs2
  clear hfu hb2 hcs hcs2
  go_wp2_with (first
    | (refine wpList_alloc_big _ rfl 160 rfl zc zero_tab ?_)
    | (refine wpList_store_big rfl 160 _ _ rfl w2.heap.size cs zc 160 rfl rfl (Bk.nw _ _ _) HCS.out HC2.out HTB.out.one ?_; intro W HBK HBE; have kc : W.cell? ⟨w2.heap.size, n * 33 + m, none⟩ = some (.int .i64 D) := (HBK.out.cell _).trans HFC.out))
  go_ret2
  exact ⟨rfl, HBE.out w (HB2.out.al _) HB2.out.size⟩
theorem sam_l {L : List Int} (h : (L.all fun x => decide (-1000 ≤ x) && decide (x ≤ 1000)) = true) : Sam L := fun x hx => by
  have := List.all_eq_true.1 h x hx
  simpa using this
theorem tab2 : et [0, 3] [3, 0] 0 2 2 = 0 ∧ et [0, 3] [3, 0] 0 1 1 = 3 ∧ et [0, 3] [3, 0] 0 1 2 = 3 ∧ et [0, 3] [3, 0] 0 2 1 = 0 ∧ et [0, 3] [3, 0] 0 1 0 = 0 ∧ et [0, 3] [3, 0] 0 0 0 = 0 := by
  refine ⟨?_, ?_, ?_, ?_, ?_, ?_⟩ <;> simp [et, mn3, mn, ab]
/-- so far: the steps, from the last one on -/
def Al2 (w : World) (T : Nat) (cs : Array Value) (wr : World) (s10 s11 s12 : Value) : Prop := ∃ (V : World) (u : Value) (S : List Int), V = wr ∧ u = s10 ∧
  ((s11 = .int .i64 2 ∧ s12 = .int .i64 2 ∧ S = []) ∨ (s11 = .int .i64 2 ∧ s12 = .int .i64 1 ∧ S = [3]) ∨ (s11 = .int .i64 1 ∧ s12 = .int .i64 0 ∧ S = [3, 1]) ∨ (s11 = .int .i64 0 ∧ s12 = .int .i64 0 ∧ S = [3, 1, 2])) ∧
  wr.ownsRow (T + 1) 3 1 s10 S.length (zs S) ∧ Bel w wr ∧ Bk wr T 160 cs ∧ T + 1 ≤ wr.heap.size
theorem al2_step {base T k : Nat} {w0 wr wq w5 : World} {u : Value} {S : List Int} {cs : Array Value} {t : TypeId} (hb : Bel w0 wr) (hbk : Bk wr T t cs) (hT : T < base) (h0 : w0.heap.size ≤ T) (hbase : base ≤ wr.heap.size)
    (hown : wr.ownsRow base 3 1 u k (zs S)) (hq : Bel wr wq) (hgr : wq.grownBy w5 u.ownBlock) : Bel w0 w5 ∧ Bk w5 T t cs ∧ base ≤ w5.heap.size := by
  have hrow : ∀ b, u.ownBlock = some b → base ≤ b := fun b e => (hown.lt b e).1
  have h2 : Bel w0 wq := hb.tr hq
  have h3 : Bk wq T t cs := hbk.bel hq
  have hs := hq.size
  refine ⟨Below.grown h2 hgr h2.size (fun b e => by have := hrow b e; omega), (hgr.block T h3.lt (fun e => by have := hrow T e.symm; omega)).trans h3, ?_⟩
  have := hgr.size
  omega
end Go.Proofs.YtpbnabibnkohdaaGreatDoor.Ed
namespace Go.Proofs.YtpbnabibnkohdaaGreatDoor.Un
open Go.ChangeShapes Go.WideShapes Go.RowKit Wo
set_option linter.unusedVariables false
structure Sc where
  digits : Int
  whole : Int
  places : Int
  point : Bool
  leading : Bool
  some : Bool
  wrong : Bool
def Sc.cells (s : Sc) : Array Value := #[.int .i64 s.digits, .int .i64 s.whole, .int .i64 s.places, .bool s.point, .bool s.leading, .bool s.some, .bool s.wrong]
/-- the number with one more digit; what is too great stays too great -/
def cap (n : Int) : Int := if n < 1000000001 then n else 1000000001
def Sc.digit (s : Sc) (d : Int) : Sc :=
  if s.point then { s with places := s.places + 1, digits := cap (10 * s.digits + d) }
  else { s with leading := s.leading || (s.whole == 1 && s.digits == 0), whole := s.whole + 1, digits := cap (10 * s.digits + d) }
def Sc.take (s : Sc) (c : Nat) : Sc :=
  if 49 ≤ c ∧ c ≤ 57 then ({ s with some := true }).digit ((c : Int) - 48)
  else if c = 48 then s.digit 0
  else if c = 46 ∧ s.point = false then { s with point := true }
  else { s with wrong := true }
def Sc.ok (s : Sc) (n : Int) : Prop := 0 ≤ s.digits ∧ s.digits ≤ 1000000001 ∧ 0 ≤ s.whole ∧ s.whole ≤ n ∧ 0 ≤ s.places ∧ s.places ≤ n
def Ch1 (g : Nat) (w w' : World) : Prop := w.grownBy w' (some g)
theorem ch1_st {g : Nat} {a b : World} (h : Ch1 g a b) (i : Nat) (u : Value) : Ch1 g a (b.setCell ⟨g, i, none⟩ u) :=
  ⟨h.os, h.tape, h.output, by simpa [World.setCell] using h.size, fun k hk hn => (Below.heap_setCell b ⟨g, i, none⟩ u k (fun e => hn (by rw [e]))).trans (h.block k hk hn)⟩
theorem ch1_rf {g : Nat} {a : World} : Ch1 g a a := World.grownBy.refl _ _
theorem ch1_tr {g : Nat} {a b c : World} (h : Ch1 g a b) (k : Ch1 g b c) : Ch1 g a c :=
  ⟨k.os.trans h.os, k.tape.trans h.tape, k.output.trans h.output, Nat.le_trans h.size k.size, fun i hi hn => (k.block i (Nat.lt_of_lt_of_le hi h.size) hn).trans (h.block i hi hn)⟩
theorem bel_ch1 {g : Nat} {a b c : World} (h : Bel a b) (k : Ch1 g b c) (hg : a.heap.size ≤ g) : Bel a c :=
  ⟨k.os.trans h.bl.os, k.tape.trans h.bl.tape, k.output.trans h.bl.output, Nat.le_trans h.size k.size, fun i hi => (k.block i (Nat.lt_of_lt_of_le hi h.size) (fun e => by injection e with e; omega)).trans (h.bl.block i hi)⟩
theorem cap_lt {n : Int} (h : n < 1000000001) : cap n = n := if_pos h
theorem cap_ge {n : Int} (h : 1000000001 ≤ n) : cap n = 1000000001 := if_neg (by omega)
set_option maxHeartbeats 4000000 in
theorem digit_point (g : Nat) (d a b e : Int) (l s r : Bool) (w : World) (hb : Bk w g 169 (Sc.mk a b e true l s r).cells) (d0 : 0 ≤ d) (d1 : d ≤ 9) (a0 : 0 ≤ a) (a1 : a ≤ 1000000001) (b0 : 0 ≤ b) (b1 : b ≤ 4611686018427387904) (e0 : 0 ≤ e) (e1 : e ≤ 4611686018427387904) :
    Calls Tryz.prog 145 #[.pointer (some ⟨g, 0, none⟩), .int .i64 d] w fun x w' => x = .returned (.tuple #[]) ∧ Ch1 g w w' ∧ Bk w' g 169 (Sc.mk (cap (10 * a + d)) b (e + 1) true l s r).cells := by
  have k0 : w.cell? ⟨g, 0, none⟩ = some (.int .i64 a) := hb.cell 0
  have k1 : w.cell? ⟨g, 1, none⟩ = some (.int .i64 b) := hb.cell 1
  have k2 : w.cell? ⟨g, 2, none⟩ = some (.int .i64 e) := hb.cell 2
  have k3 : w.cell? ⟨g, 3, none⟩ = some (.bool true) := hb.cell 3
  have k4 : w.cell? ⟨g, 4, none⟩ = some (.bool l) := hb.cell 4
  have f0 : w.frozen? ⟨g, 0, none⟩ = false := hb.fr 0
  have f1 : w.frozen? ⟨g, 1, none⟩ = false := hb.fr 1
  have f2 : w.frozen? ⟨g, 2, none⟩ = false := hb.fr 2
  have f4 : w.frozen? ⟨g, 4, none⟩ = false := hb.fr 4
  have HB := Lib.hid hb
  clear hb
  rcases Int.lt_trichotomy (10 * a + d) 1000000001 with h | h | h
  · have HC := Lib.hid (show cap (10 * a + d) = _ from cap_lt h)
    go_enter Tryz.func145, Tryz.ntmps145
    go_wp2
    go_end0
    refine ⟨rfl, ch1_st (ch1_st (ch1_rf) _ _) _ _, ?_⟩
    rw [HC.out]
    have hz := ((HB.out.st 2 (.int .i64 (e + 1))).st 0 (.int .i64 (10 * a + d)))
    first | exact hz | (rw [h]; exact hz) | (rw [h] at hz; exact hz) | (rw [← h]; exact hz)
  · have HC := Lib.hid (show cap (10 * a + d) = _ from cap_ge (by omega))
    go_enter Tryz.func145, Tryz.ntmps145
    go_wp2
    go_end0
    refine ⟨rfl, ch1_st (ch1_st (ch1_rf) _ _) _ _, ?_⟩
    rw [HC.out]
    have hz := ((HB.out.st 2 (.int .i64 (e + 1))).st 0 (.int .i64 (1000000001)))
    first | exact hz | (rw [h]; exact hz) | (rw [h] at hz; exact hz) | (rw [← h]; exact hz)
  · have HC := Lib.hid (show cap (10 * a + d) = _ from cap_ge (by omega))
    go_enter Tryz.func145, Tryz.ntmps145
    go_wp2
    go_end0
    refine ⟨rfl, ch1_st (ch1_st (ch1_rf) _ _) _ _, ?_⟩
    rw [HC.out]
    have hz := ((HB.out.st 2 (.int .i64 (e + 1))).st 0 (.int .i64 (1000000001)))
    first | exact hz | (rw [h]; exact hz) | (rw [h] at hz; exact hz) | (rw [← h]; exact hz)
set_option maxHeartbeats 4000000 in
theorem digit_a (g : Nat) (d a b e : Int) (l s r : Bool) (w : World) (hb : Bk w g 169 (Sc.mk a b e false true s r).cells) (d0 : 0 ≤ d) (d1 : d ≤ 9) (a0 : 0 ≤ a) (a1 : a ≤ 1000000001) (b0 : 0 ≤ b) (b1 : b ≤ 4611686018427387904) (e0 : 0 ≤ e) (e1 : e ≤ 4611686018427387904) :
    Calls Tryz.prog 145 #[.pointer (some ⟨g, 0, none⟩), .int .i64 d] w fun x w' => x = .returned (.tuple #[]) ∧ Ch1 g w w' ∧ Bk w' g 169 (Sc.mk (cap (10 * a + d)) (b + 1) e false true s r).cells := by
  have k0 : w.cell? ⟨g, 0, none⟩ = some (.int .i64 a) := hb.cell 0
  have k1 : w.cell? ⟨g, 1, none⟩ = some (.int .i64 b) := hb.cell 1
  have k2 : w.cell? ⟨g, 2, none⟩ = some (.int .i64 e) := hb.cell 2
  have k3 : w.cell? ⟨g, 3, none⟩ = some (.bool false) := hb.cell 3
  have k4 : w.cell? ⟨g, 4, none⟩ = some (.bool true) := hb.cell 4
  have f0 : w.frozen? ⟨g, 0, none⟩ = false := hb.fr 0
  have f1 : w.frozen? ⟨g, 1, none⟩ = false := hb.fr 1
  have f2 : w.frozen? ⟨g, 2, none⟩ = false := hb.fr 2
  have f4 : w.frozen? ⟨g, 4, none⟩ = false := hb.fr 4
  have HB := Lib.hid hb
  clear hb
  rcases Int.lt_trichotomy (10 * a + d) 1000000001 with h | h | h
  · have HC := Lib.hid (show cap (10 * a + d) = _ from cap_lt h)
    go_enter Tryz.func145, Tryz.ntmps145
    go_wp2
    go_end0
    refine ⟨rfl, ch1_st (ch1_st (ch1_st (ch1_rf) _ _) _ _) _ _, ?_⟩
    rw [HC.out]
    have hz := (((HB.out.st 4 (.bool true)).st 1 (.int .i64 (b + 1))).st 0 (.int .i64 (10 * a + d)))
    first | exact hz | (rw [h]; exact hz) | (rw [h] at hz; exact hz) | (rw [← h]; exact hz)
  · have HC := Lib.hid (show cap (10 * a + d) = _ from cap_ge (by omega))
    go_enter Tryz.func145, Tryz.ntmps145
    go_wp2
    go_end0
    refine ⟨rfl, ch1_st (ch1_st (ch1_st (ch1_rf) _ _) _ _) _ _, ?_⟩
    rw [HC.out]
    have hz := (((HB.out.st 4 (.bool true)).st 1 (.int .i64 (b + 1))).st 0 (.int .i64 (1000000001)))
    first | exact hz | (rw [h]; exact hz) | (rw [h] at hz; exact hz) | (rw [← h]; exact hz)
  · have HC := Lib.hid (show cap (10 * a + d) = _ from cap_ge (by omega))
    go_enter Tryz.func145, Tryz.ntmps145
    go_wp2
    go_end0
    refine ⟨rfl, ch1_st (ch1_st (ch1_st (ch1_rf) _ _) _ _) _ _, ?_⟩
    rw [HC.out]
    have hz := (((HB.out.st 4 (.bool true)).st 1 (.int .i64 (b + 1))).st 0 (.int .i64 (1000000001)))
    first | exact hz | (rw [h]; exact hz) | (rw [h] at hz; exact hz) | (rw [← h]; exact hz)
set_option maxHeartbeats 4000000 in
theorem digit_b (g : Nat) (d a b e : Int) (l s r : Bool) (w : World) (hb : Bk w g 169 (Sc.mk a b e false false s r).cells) (d0 : 0 ≤ d) (d1 : d ≤ 9) (a0 : 0 ≤ a) (a1 : a ≤ 1000000001) (b0 : 0 ≤ b) (b1 : b ≤ 4611686018427387904) (e0 : 0 ≤ e) (e1 : e ≤ 4611686018427387904) (hx : (b == 1) = false) :
    Calls Tryz.prog 145 #[.pointer (some ⟨g, 0, none⟩), .int .i64 d] w fun x w' => x = .returned (.tuple #[]) ∧ Ch1 g w w' ∧ Bk w' g 169 (Sc.mk (cap (10 * a + d)) (b + 1) e false false s r).cells := by
  have k0 : w.cell? ⟨g, 0, none⟩ = some (.int .i64 a) := hb.cell 0
  have k1 : w.cell? ⟨g, 1, none⟩ = some (.int .i64 b) := hb.cell 1
  have k2 : w.cell? ⟨g, 2, none⟩ = some (.int .i64 e) := hb.cell 2
  have k3 : w.cell? ⟨g, 3, none⟩ = some (.bool false) := hb.cell 3
  have k4 : w.cell? ⟨g, 4, none⟩ = some (.bool false) := hb.cell 4
  have f0 : w.frozen? ⟨g, 0, none⟩ = false := hb.fr 0
  have f1 : w.frozen? ⟨g, 1, none⟩ = false := hb.fr 1
  have f2 : w.frozen? ⟨g, 2, none⟩ = false := hb.fr 2
  have f4 : w.frozen? ⟨g, 4, none⟩ = false := hb.fr 4
  have HB := Lib.hid hb
  clear hb
  rcases Int.lt_trichotomy (10 * a + d) 1000000001 with h | h | h
  · have HC := Lib.hid (show cap (10 * a + d) = _ from cap_lt h)
    go_enter Tryz.func145, Tryz.ntmps145
    go_wp2
    go_end0
    refine ⟨rfl, ch1_st (ch1_st (ch1_st (ch1_rf) _ _) _ _) _ _, ?_⟩
    rw [HC.out]
    have hz := (((HB.out.st 4 (.bool false)).st 1 (.int .i64 (b + 1))).st 0 (.int .i64 (10 * a + d)))
    first | exact hz | (rw [h]; exact hz) | (rw [h] at hz; exact hz) | (rw [← h]; exact hz)
  · have HC := Lib.hid (show cap (10 * a + d) = _ from cap_ge (by omega))
    go_enter Tryz.func145, Tryz.ntmps145
    go_wp2
    go_end0
    refine ⟨rfl, ch1_st (ch1_st (ch1_st (ch1_rf) _ _) _ _) _ _, ?_⟩
    rw [HC.out]
    have hz := (((HB.out.st 4 (.bool false)).st 1 (.int .i64 (b + 1))).st 0 (.int .i64 (1000000001)))
    first | exact hz | (rw [h]; exact hz) | (rw [h] at hz; exact hz) | (rw [← h]; exact hz)
  · have HC := Lib.hid (show cap (10 * a + d) = _ from cap_ge (by omega))
    go_enter Tryz.func145, Tryz.ntmps145
    go_wp2
    go_end0
    refine ⟨rfl, ch1_st (ch1_st (ch1_st (ch1_rf) _ _) _ _) _ _, ?_⟩
    rw [HC.out]
    have hz := (((HB.out.st 4 (.bool false)).st 1 (.int .i64 (b + 1))).st 0 (.int .i64 (1000000001)))
    first | exact hz | (rw [h]; exact hz) | (rw [h] at hz; exact hz) | (rw [← h]; exact hz)
set_option maxHeartbeats 4000000 in
theorem digit_c (g : Nat) (d a b e : Int) (l s r : Bool) (w : World) (hb : Bk w g 169 (Sc.mk a b e false false s r).cells) (d0 : 0 ≤ d) (d1 : d ≤ 9) (a0 : 0 ≤ a) (a1 : a ≤ 1000000001) (b0 : 0 ≤ b) (b1 : b ≤ 4611686018427387904) (e0 : 0 ≤ e) (e1 : e ≤ 4611686018427387904) (hx : (b == 1) = true) (hy : (a == 0) = false) :
    Calls Tryz.prog 145 #[.pointer (some ⟨g, 0, none⟩), .int .i64 d] w fun x w' => x = .returned (.tuple #[]) ∧ Ch1 g w w' ∧ Bk w' g 169 (Sc.mk (cap (10 * a + d)) (b + 1) e false false s r).cells := by
  have k0 : w.cell? ⟨g, 0, none⟩ = some (.int .i64 a) := hb.cell 0
  have k1 : w.cell? ⟨g, 1, none⟩ = some (.int .i64 b) := hb.cell 1
  have k2 : w.cell? ⟨g, 2, none⟩ = some (.int .i64 e) := hb.cell 2
  have k3 : w.cell? ⟨g, 3, none⟩ = some (.bool false) := hb.cell 3
  have k4 : w.cell? ⟨g, 4, none⟩ = some (.bool false) := hb.cell 4
  have f0 : w.frozen? ⟨g, 0, none⟩ = false := hb.fr 0
  have f1 : w.frozen? ⟨g, 1, none⟩ = false := hb.fr 1
  have f2 : w.frozen? ⟨g, 2, none⟩ = false := hb.fr 2
  have f4 : w.frozen? ⟨g, 4, none⟩ = false := hb.fr 4
  have HB := Lib.hid hb
  clear hb
  rcases Int.lt_trichotomy (10 * a + d) 1000000001 with h | h | h
  · have HC := Lib.hid (show cap (10 * a + d) = _ from cap_lt h)
    go_enter Tryz.func145, Tryz.ntmps145
    go_wp2
    go_end0
    refine ⟨rfl, ch1_st (ch1_st (ch1_st (ch1_rf) _ _) _ _) _ _, ?_⟩
    rw [HC.out]
    have hz := (((HB.out.st 4 (.bool false)).st 1 (.int .i64 (b + 1))).st 0 (.int .i64 (10 * a + d)))
    first | exact hz | (rw [h]; exact hz) | (rw [h] at hz; exact hz) | (rw [← h]; exact hz)
  · have HC := Lib.hid (show cap (10 * a + d) = _ from cap_ge (by omega))
    go_enter Tryz.func145, Tryz.ntmps145
    go_wp2
    go_end0
    refine ⟨rfl, ch1_st (ch1_st (ch1_st (ch1_rf) _ _) _ _) _ _, ?_⟩
    rw [HC.out]
    have hz := (((HB.out.st 4 (.bool false)).st 1 (.int .i64 (b + 1))).st 0 (.int .i64 (1000000001)))
    first | exact hz | (rw [h]; exact hz) | (rw [h] at hz; exact hz) | (rw [← h]; exact hz)
  · have HC := Lib.hid (show cap (10 * a + d) = _ from cap_ge (by omega))
    go_enter Tryz.func145, Tryz.ntmps145
    go_wp2
    go_end0
    refine ⟨rfl, ch1_st (ch1_st (ch1_st (ch1_rf) _ _) _ _) _ _, ?_⟩
    rw [HC.out]
    have hz := (((HB.out.st 4 (.bool false)).st 1 (.int .i64 (b + 1))).st 0 (.int .i64 (1000000001)))
    first | exact hz | (rw [h]; exact hz) | (rw [h] at hz; exact hz) | (rw [← h]; exact hz)
set_option maxHeartbeats 4000000 in
theorem digit_d (g : Nat) (d a b e : Int) (l s r : Bool) (w : World) (hb : Bk w g 169 (Sc.mk a b e false false s r).cells) (d0 : 0 ≤ d) (d1 : d ≤ 9) (a0 : 0 ≤ a) (a1 : a ≤ 1000000001) (b0 : 0 ≤ b) (b1 : b ≤ 4611686018427387904) (e0 : 0 ≤ e) (e1 : e ≤ 4611686018427387904) (hx : (b == 1) = true) (hy : (a == 0) = true) :
    Calls Tryz.prog 145 #[.pointer (some ⟨g, 0, none⟩), .int .i64 d] w fun x w' => x = .returned (.tuple #[]) ∧ Ch1 g w w' ∧ Bk w' g 169 (Sc.mk (cap (10 * a + d)) (b + 1) e false true s r).cells := by
  have k0 : w.cell? ⟨g, 0, none⟩ = some (.int .i64 a) := hb.cell 0
  have k1 : w.cell? ⟨g, 1, none⟩ = some (.int .i64 b) := hb.cell 1
  have k2 : w.cell? ⟨g, 2, none⟩ = some (.int .i64 e) := hb.cell 2
  have k3 : w.cell? ⟨g, 3, none⟩ = some (.bool false) := hb.cell 3
  have k4 : w.cell? ⟨g, 4, none⟩ = some (.bool false) := hb.cell 4
  have f0 : w.frozen? ⟨g, 0, none⟩ = false := hb.fr 0
  have f1 : w.frozen? ⟨g, 1, none⟩ = false := hb.fr 1
  have f2 : w.frozen? ⟨g, 2, none⟩ = false := hb.fr 2
  have f4 : w.frozen? ⟨g, 4, none⟩ = false := hb.fr 4
  have HB := Lib.hid hb
  clear hb
  rcases Int.lt_trichotomy (10 * a + d) 1000000001 with h | h | h
  · have HC := Lib.hid (show cap (10 * a + d) = _ from cap_lt h)
    go_enter Tryz.func145, Tryz.ntmps145
    go_wp2
    go_end0
    refine ⟨rfl, ch1_st (ch1_st (ch1_st (ch1_rf) _ _) _ _) _ _, ?_⟩
    rw [HC.out]
    have hz := (((HB.out.st 4 (.bool true)).st 1 (.int .i64 (b + 1))).st 0 (.int .i64 (10 * a + d)))
    first | exact hz | (rw [h]; exact hz) | (rw [h] at hz; exact hz) | (rw [← h]; exact hz)
  · have HC := Lib.hid (show cap (10 * a + d) = _ from cap_ge (by omega))
    go_enter Tryz.func145, Tryz.ntmps145
    go_wp2
    go_end0
    refine ⟨rfl, ch1_st (ch1_st (ch1_st (ch1_rf) _ _) _ _) _ _, ?_⟩
    rw [HC.out]
    have hz := (((HB.out.st 4 (.bool true)).st 1 (.int .i64 (b + 1))).st 0 (.int .i64 (1000000001)))
    first | exact hz | (rw [h]; exact hz) | (rw [h] at hz; exact hz) | (rw [← h]; exact hz)
  · have HC := Lib.hid (show cap (10 * a + d) = _ from cap_ge (by omega))
    go_enter Tryz.func145, Tryz.ntmps145
    go_wp2
    go_end0
    refine ⟨rfl, ch1_st (ch1_st (ch1_st (ch1_rf) _ _) _ _) _ _, ?_⟩
    rw [HC.out]
    have hz := (((HB.out.st 4 (.bool true)).st 1 (.int .i64 (b + 1))).st 0 (.int .i64 (1000000001)))
    first | exact hz | (rw [h]; exact hz) | (rw [h] at hz; exact hz) | (rw [← h]; exact hz)
theorem digit_any (g : Nat) (d : Int) (S : Sc) (w : World) (hb : Bk w g 169 S.cells) (d0 : 0 ≤ d) (d1 : d ≤ 9) (n : Int) (hn : n ≤ 4611686018427387904) (hS : S.ok n) :
    Calls Tryz.prog 145 #[.pointer (some ⟨g, 0, none⟩), .int .i64 d] w fun x w' => x = .returned (.tuple #[]) ∧ Ch1 g w w' ∧ Bk w' g 169 (S.digit d).cells := by
  obtain ⟨a, b, e, p, l, s, r⟩ := S
  obtain ⟨a0, a1, b0, b1, e0, e1⟩ := hS
  simp only at a0 a1 b0 b1 e0 e1
  cases p
  · cases l
    · rcases hx : (b == 1)
      · have := digit_b g d a b e false s r w hb d0 d1 a0 a1 b0 (by omega) e0 (by omega) hx
        simpa [Sc.digit, hx] using this
      · rcases hy : (a == 0)
        · have := digit_c g d a b e false s r w hb d0 d1 a0 a1 b0 (by omega) e0 (by omega) hx hy
          simpa [Sc.digit, hx, hy] using this
        · have := digit_d g d a b e false s r w hb d0 d1 a0 a1 b0 (by omega) e0 (by omega) hx hy
          simpa [Sc.digit, hx, hy] using this
    · have := digit_a g d a b e true s r w hb d0 d1 a0 a1 b0 (by omega) e0 (by omega)
      simpa [Sc.digit] using this
  · have := digit_point g d a b e l s r w hb d0 d1 a0 a1 b0 (by omega) e0 (by omega)
    simpa [Sc.digit] using this
theorem cap_bound {n : Int} (h : 0 ≤ n) : 0 ≤ cap n ∧ cap n ≤ 1000000001 := by unfold cap; split <;> omega
theorem digit_ok {S : Sc} {n d : Int} (h : S.ok n) (d0 : 0 ≤ d) : (S.digit d).ok (n + 1) := by
  obtain ⟨a0, a1, b0, b1, e0, e1⟩ := h
  have := cap_bound (n := 10 * S.digits + d) (by omega)
  unfold Sc.digit
  split <;> exact ⟨this.1, this.2, by simp only; omega, by simp only; omega, by simp only; omega, by simp only; omega⟩
theorem take_ok {S : Sc} {n : Int} {c : Nat} (h : S.ok n) : (S.take c).ok (n + 1) := by
  have hw : S.ok (n + 1) := ⟨h.1, h.2.1, h.2.2.1, by have := h.2.2.2.1; omega, h.2.2.2.2.1, by have := h.2.2.2.2.2; omega⟩
  unfold Sc.take
  split
  · exact digit_ok (S := { S with some := true }) h (by omega)
  · split
    · exact digit_ok h (by omega)
    · split
      · exact hw
      · exact hw
end Go.Proofs.YtpbnabibnkohdaaGreatDoor.Un
namespace Go.Proofs.YtpbnabibnkohdaaGreatDoor.Un
open Go.ChangeShapes Go.WideShapes Go.RowKit Wo
set_option linter.unusedVariables false
set_option maxHeartbeats 4000000 in
set_option maxRecDepth 100000 in
theorem take_any (g : Nat) (c : Nat) (hc : c < 256) (S : Sc) (w : World) (hb : Bk w g 169 S.cells) (n : Int) (hn : n ≤ 4611686018427387904) (hS : S.ok n) :
    Calls Tryz.prog 112 #[.pointer (some ⟨g, 0, none⟩), .int .u8 (c : Int)] w fun x w' => x = .returned (.tuple #[]) ∧ Ch1 g w w' ∧ Bk w' g 169 (S.take c).cells := by
  have k3 : w.cell? ⟨g, 3, none⟩ = some (.bool S.point) := hb.cell 3
  have k5 : w.cell? ⟨g, 5, none⟩ = some (.bool S.some) := hb.cell 5
  have k6 : w.cell? ⟨g, 6, none⟩ = some (.bool S.wrong) := hb.cell 6
  have f3 : w.frozen? ⟨g, 3, none⟩ = false := hb.fr 3
  have f5 : w.frozen? ⟨g, 5, none⟩ = false := hb.fr 5
  have f6 : w.frozen? ⟨g, 6, none⟩ = false := hb.fr 6
  have ci : (c : Int) < 256 := by omega
  rcases Classical.em (49 ≤ c ∧ c ≤ 57) with h | h
  · have HT : Hid (S.take c = ({ S with some := true } : Sc).digit ((c : Int) - 48)) := by show S.take c = _; unfold Sc.take; rw [if_pos h]
    obtain ⟨h1, h2⟩ := h
    have i1 : (49 : Int) ≤ (c : Int) := by omega
    have i2 : (c : Int) ≤ 57 := by omega
    have HB2 : Hid (Bk (w.setCell ⟨g, 5, none⟩ (.bool true)) g 169 ({ S with some := true } : Sc).cells) := hb.st 5 _
    have HD : Hid (Calls Tryz.prog 145 #[.pointer (some ⟨g, 0, none⟩), .int .i64 ((c : Int) - 48)] (w.setCell ⟨g, 5, none⟩ (.bool true)) fun x w' => x = .returned (.tuple #[]) ∧ Ch1 g (w.setCell ⟨g, 5, none⟩ (.bool true)) w' ∧ Bk w' g 169 (({ S with some := true } : Sc).digit ((c : Int) - 48)).cells) :=
      digit_any g _ _ _ HB2.out (by omega) (by omega) n hn hS
    clear hb HB2 h1 h2
    go_enter Tryz.func112, Tryz.ntmps112
    go_wp2_with fail
    go_at_call 145
    refine (HD.out).mono ?_
    rintro x w1 ⟨rfl, hc1, hb1⟩
    have HC1 := Lib.hid (ch1_tr (ch1_st ch1_rf 5 (.bool true)) hc1)
    have HB1 := Lib.hid hb1
    clear hc1 hb1
    go_wp2
    go_end0
    exact ⟨rfl, HC1.out, by rw [HT.out]; exact HB1.out⟩
  · rcases Classical.em (c = 48) with h0 | h0
    · have HT : Hid (S.take c = S.digit 0) := by show S.take c = _; unfold Sc.take; rw [if_neg h, if_pos h0]
      subst h0
      have HD : Hid (Calls Tryz.prog 145 #[.pointer (some ⟨g, 0, none⟩), .int .i64 0] w fun x w' => x = .returned (.tuple #[]) ∧ Ch1 g w w' ∧ Bk w' g 169 (S.digit 0).cells) :=
        digit_any g _ _ _ hb (by omega) (by omega) n hn hS
      clear hb h hc ci
      go_enter Tryz.func112, Tryz.ntmps112
      go_wp2_with fail
      go_at_call 145
      refine (HD.out).mono ?_
      rintro x w1 ⟨rfl, hc1, hb1⟩
      have HC1 := Lib.hid hc1
      have HB1 := Lib.hid hb1
      clear hc1 hb1
      go_wp2
      go_end0
      exact ⟨rfl, HC1.out, by rw [HT.out]; exact HB1.out⟩
    · have n48 : ((c : Int) == 48) = false := by simpa using (by omega : (c : Int) ≠ 48)
      rcases Classical.em (c = 46 ∧ S.point = false) with h1 | h1
      · have HT : Hid (S.take c = { S with point := true }) := by show S.take c = _; unfold Sc.take; rw [if_neg h, if_neg h0, if_pos h1]
        obtain ⟨rfl, hp⟩ := h1
        rw [hp] at k3
        have HB := Lib.hid hb
        clear hb h h0 hc ci n48 hp
        go_enter Tryz.func112, Tryz.ntmps112
        go_wp2
        go_end0
        exact ⟨rfl, ch1_st ch1_rf _ _, by rw [HT.out]; exact HB.out.st 3 (.bool true)⟩
      · have HT : Hid (S.take c = { S with wrong := true }) := by show S.take c = _; unfold Sc.take; rw [if_neg h, if_neg h0, if_neg h1]
        have HB := Lib.hid hb
        have o1 : decide (49 ≤ (c : Int)) = false ∨ decide (49 ≤ (c : Int)) = true ∧ decide ((c : Int) ≤ 57) = false := by
          rcases Nat.lt_or_ge c 49 with h | h
          · exact .inl (decide_eq_false (by omega))
          · exact .inr ⟨decide_eq_true (by omega), decide_eq_false (by omega)⟩
        have o2 : ((c : Int) == 46) = false ∨ ((c : Int) == 46) = true ∧ S.point = true := by
          rcases Classical.em (c = 46) with h | h
          · refine .inr ⟨by simpa using (by omega : (c : Int) = 46), ?_⟩
            rcases hp : S.point
            · exact absurd ⟨h, hp⟩ h1
            · rfl
          · exact .inl (by simpa using (by omega : (c : Int) ≠ 46))
        clear hb h h0 h1 hc ci
        rcases o1 with g1 | ⟨g1, g2⟩ <;> rcases o2 with g3 | ⟨g3, g4⟩
        all_goals
          first
          | (rw [g4] at k3; clear g4)
          | skip
          go_enter Tryz.func112, Tryz.ntmps112
          go_wp2
          go_end0
          exact ⟨rfl, ch1_st ch1_rf _ _, by rw [HT.out]; exact HB.out.st 6 (.bool true)⟩
end Go.Proofs.YtpbnabibnkohdaaGreatDoor.Un
namespace Go.Proofs.YtpbnabibnkohdaaGreatDoor.Un
open Go.ChangeShapes Go.WideShapes Go.RowKit Wo
set_option linter.unusedVariables false
/-- the state behind the bytes of a text -/
def rn (l : List UInt8) : Sc := l.foldl (fun S c => S.take c.toNat) ⟨0, 0, 0, false, false, false, false⟩
theorem rn_snoc (l : List UInt8) (c : UInt8) : rn (l ++ [c]) = (rn l).take c.toNat := by simp [rn, List.foldl_append]
theorem rn_ok_aux (l : List UInt8) : ∀ (S : Sc) (n : Int), S.ok n → (l.foldl (fun S c => S.take c.toNat) S).ok (n + l.length) := by
  induction l with
  | nil => intro S n h; simpa using h
  | cons c l ih =>
    intro S n h
    have := ih (S.take c.toNat) (n + 1) (take_ok h)
    rw [List.foldl_cons, List.length_cons]
    rwa [show n + 1 + (l.length : Int) = n + ((l.length + 1 : Nat) : Int) by omega] at this
theorem rn_ok (l : List UInt8) : (rn l).ok l.length := by
  have := rn_ok_aux l ⟨0, 0, 0, false, false, false, false⟩ 0 ⟨by decide, by decide, by decide, by decide, by decide, by decide⟩
  simpa [rn] using this
theorem take_snoc (s : ByteArray) (k : Nat) (h : k < s.size) : s.data.toList.take (k + 1) = s.data.toList.take k ++ [s[k]] := by
  rw [List.take_succ_eq_append_getElem (by simpa using h)]; rfl
/-- whether the text is refused -/
def rej (S : Sc) (m : Bool) : Bool := S.wrong || (S.leading || (S.whole == 0 || ((S.point && S.places == 0) || (decide (6 < S.places) || (m && !S.some)))))
/-- what Parse returns -/
def prs (S : Sc) (m : Bool) : Value :=
  if rej S m = true then .tuple #[.agg #[.int .i64 0, .int .i64 0], .int .i64 3]
  else if 1000000000 < S.digits then .tuple #[.agg #[.int .i64 0, .int .i64 0], .int .i64 1]
  else .tuple #[.agg #[.int .i64 (if m = true then -S.digits else S.digits), .int .i64 S.places], .int .i64 0]
set_option maxHeartbeats 16000000 in
set_option maxRecDepth 100000 in
theorem parse_core (s body : ByteArray) (m : Bool) (hs : body.size ≤ 4611686018427387904) (w : World)
    (hcut : ∀ w, Calls Tryz.prog 111 #[.string s, .string ⟨#[45]⟩] w fun e w' => e = .returned (.tuple #[.string body, .bool m]) ∧ w = w') :
    Calls Tryz.prog 84 #[.string s] w fun e w' => e = .returned (prs (rn body.data.toList) m) ∧ Bel w w' := by
  have HCUT := Lib.hid hcut
  clear hcut
  have si : (body.size : Int) ≤ 4611686018427387904 := by omega
  go_enter Tryz.func84, Tryz.ntmps84
  go_wp2_with fail
  go_at_call 111
  refine (HCUT.out _).mono ?_
  rintro e w1 ⟨rfl, hw1⟩
  subst hw1
  go_wp2_with fail
  have HI : Hid (∀ W : World, Bk (W.alloc (.cells (Sc.mk 0 0 0 false false false false).cells 169)) W.heap.size 169 (Sc.mk 0 0 0 false false false false).cells) := fun W => Bk.nw _ _ _
  go_loopw [15] (fun t wr => ∃ k : Nat, k ≤ body.size ∧ t = .int .i64 (k : Int) ∧ Bel w wr ∧ Bk wr (w.heap.size + 1) 169 (rn (body.data.toList.take k)).cells ∧ Bk wr w.heap.size 128 #[.int .i64 0, .int .i64 0]) (fun t _ => body.size - (intOf t).toNat)
  case atStart => exact ⟨0, by omega, rfl, (Bel.rf.al _).al _, Bk.nq (w.alloc _) _ _ (by simp), (Bk.nw _ _ _).al _⟩
  case round =>
    obtain ⟨k, hk, rfl, hb, hg, hr⟩ := hrel
    rename_i wr
    rcases Nat.lt_or_ge k body.size with hlt | hge
    · have hkl : (body.data.toList.take k).length ≤ k := List.length_take_le _ _
      have hok := rn_ok (body.data.toList.take k)
      have hok2 : (rn (body.data.toList.take k)).ok 4611686018427387904 := ⟨hok.1, hok.2.1, hok.2.2.1, by have := hok.2.2.2.1; omega, hok.2.2.2.2.1, by have := hok.2.2.2.2.2; omega⟩
      have HT : Hid (Calls Tryz.prog 112 #[.pointer (some ⟨w.heap.size + 1, 0, none⟩), .int .u8 (body[k].toNat : Int)] wr fun x w' => x = .returned (.tuple #[]) ∧ Ch1 (w.heap.size + 1) wr w' ∧ Bk w' (w.heap.size + 1) 169 ((rn (body.data.toList.take k)).take body[k].toNat).cells) :=
        take_any _ _ (UInt8.toNat_lt _) _ _ hg 4611686018427387904 (by decide) hok2
      have HE : Hid (rn (body.data.toList.take (k + 1)) = (rn (body.data.toList.take k)).take body[k].toNat) := by
        show rn _ = _
        rw [take_snoc body k hlt, rn_snoc]
      have HB := Lib.hid hb
      have HR := Lib.hid hr
      have hi : (k : Int) < (body.size : Int) := by omega
      clear hb hg hr hok hok2 hkl
      go_wp2_with fail
      go_at_call 112
      refine (HT.out).mono ?_
      rintro x w2 ⟨rfl, hc2, hg2⟩
      have HB2 : Hid (Bel w w2) := bel_ch1 HB.out hc2 (by omega)
      have HR2 : Hid (Bk w2 w.heap.size 128 #[.int .i64 0, .int .i64 0]) := (hc2.block _ HR.out.lt (fun e => by injection e with e; omega)).trans HR.out
      have HG2 := Lib.hid hg2
      clear hc2 hg2
      go_wp2_with fail
      go_roundw
      case rel => exact ⟨k + 1, by omega, by go_num, HB2.out, by rw [HE.out]; exact HG2.out, HR2.out⟩
      case measure => simp [intOf]; omega
    · obtain rfl : k = body.size := by omega
      have hall : body.data.toList.take body.size = body.data.toList := List.take_of_length_le (by simp)
      rw [hall] at hg
      have hok := rn_ok body.data.toList
      have hlen : (body.data.toList.length : Int) ≤ 4611686018427387904 := by simpa using si
      obtain ⟨o0, o1, o2, o3, o4, o5⟩ := hok
      obtain ⟨S, hS⟩ : ∃ S, rn body.data.toList = S := ⟨_, rfl⟩
      rw [hS] at hg o0 o1 o2 o3 o4 o5
      have HSS := Lib.hid hS
      clear hS
      have l0 : wr.cell? ⟨w.heap.size, 0, none⟩ = some (.int .i64 0) := hr.cell 0
      have l1 : wr.cell? ⟨w.heap.size, 1, none⟩ = some (.int .i64 0) := hr.cell 1
      have j0 : wr.frozen? ⟨w.heap.size, 0, none⟩ = false := hr.fr 0
      have j1 : wr.frozen? ⟨w.heap.size, 1, none⟩ = false := hr.fr 1
      obtain ⟨a, b, c, p, l, q, r⟩ := S
      simp only at o0 o1 o2 o3 o4 o5
      have k0 : wr.cell? ⟨w.heap.size + 1, 0, none⟩ = some (.int .i64 a) := hg.cell 0
      have k1 : wr.cell? ⟨w.heap.size + 1, 1, none⟩ = some (.int .i64 b) := hg.cell 1
      have k2 : wr.cell? ⟨w.heap.size + 1, 2, none⟩ = some (.int .i64 c) := hg.cell 2
      have k3 : wr.cell? ⟨w.heap.size + 1, 3, none⟩ = some (.bool p) := hg.cell 3
      have k4 : wr.cell? ⟨w.heap.size + 1, 4, none⟩ = some (.bool l) := hg.cell 4
      have k5 : wr.cell? ⟨w.heap.size + 1, 5, none⟩ = some (.bool q) := hg.cell 5
      have k6 : wr.cell? ⟨w.heap.size + 1, 6, none⟩ = some (.bool r) := hg.cell 6
      have f0 : wr.frozen? ⟨w.heap.size + 1, 0, none⟩ = false := hg.fr 0
      have HB := Lib.hid hb
      clear hg hr hb HI hall hlen hk hge o3 o5
      rcases hj : rej ⟨a, b, c, p, l, q, r⟩ m
      · have HV : Hid (prs (rn body.data.toList) m = if 1000000000 < a then .tuple #[.agg #[.int .i64 0, .int .i64 0], .int .i64 1] else .tuple #[.agg #[.int .i64 (if m = true then -a else a), .int .i64 c], .int .i64 0]) := by
          show prs _ _ = _
          rw [HSS.out]
          unfold prs
          rw [hj]
          rfl
        simp only [rej, Bool.or_eq_false_iff] at hj
        obtain ⟨rfl, rfl, h3, h4, h5, h6⟩ := hj
        have h5' : ¬ 6 < c := by simpa using h5
        rcases Int.lt_or_le 1000000000 a with ha | ha
        · rw [if_pos ha] at HV
          rcases p
          · clear h4
            rcases m <;> rcases q <;> first | (simp at h6; done) | (clear h5 h6; go_wp2; exact bodyPost_ret (v := .tuple #[.agg #[.int .i64 0, .int .i64 0], .int .i64 1]) (by simp [results, Tryz.results84, go_sem, l0, l1]) rfl ⟨by rw [HV.out], (by repeat (first | exact HB.out | (with_reducible refine Bel.drwN ?_ _) | (with_reducible refine Bel.drw ?_) | (with_reducible refine Bel.al ?_ _) | ((with_reducible refine Bel.st2 ?_ ?_ _); (show _ ≤ _); (simp only []; omega))))⟩)
          · simp only [Bool.true_and] at h4
            rcases m <;> rcases q <;> first | (simp at h6; done) | (clear h5 h6; go_wp2; exact bodyPost_ret (v := .tuple #[.agg #[.int .i64 0, .int .i64 0], .int .i64 1]) (by simp [results, Tryz.results84, go_sem, l0, l1]) rfl ⟨by rw [HV.out], (by repeat (first | exact HB.out | (with_reducible refine Bel.drwN ?_ _) | (with_reducible refine Bel.drw ?_) | (with_reducible refine Bel.al ?_ _) | ((with_reducible refine Bel.st2 ?_ ?_ _); (show _ ≤ _); (simp only []; omega))))⟩)
        · rw [if_neg (by omega)] at HV
          rcases p
          · clear h4
            rcases m
            · clear h5 h6
              go_wp2
              exact bodyPost_ret (v := .tuple #[.agg #[.int .i64 a, .int .i64 c], .int .i64 0]) (by simp [results, Tryz.results84, go_sem, l0, l1]) rfl ⟨by rw [HV.out]; rfl, (by repeat (first | exact HB.out | (with_reducible refine Bel.drwN ?_ _) | (with_reducible refine Bel.drw ?_) | (with_reducible refine Bel.al ?_ _) | ((with_reducible refine Bel.st2 ?_ ?_ _); (show _ ≤ _); (simp only []; omega))))⟩
            · rcases q
              · simp at h6
              · clear h5 h6
                go_wp2
                exact bodyPost_ret (v := .tuple #[.agg #[.int .i64 (-a), .int .i64 c], .int .i64 0]) (by simp [results, Tryz.results84, go_sem, l0, l1]) rfl ⟨by rw [HV.out]; rfl, (by repeat (first | exact HB.out | (with_reducible refine Bel.drwN ?_ _) | (with_reducible refine Bel.drw ?_) | (with_reducible refine Bel.al ?_ _) | ((with_reducible refine Bel.st2 ?_ ?_ _); (show _ ≤ _); (simp only []; omega))))⟩
          · simp only [Bool.true_and] at h4
            rcases m
            · clear h5 h6
              go_wp2
              exact bodyPost_ret (v := .tuple #[.agg #[.int .i64 a, .int .i64 c], .int .i64 0]) (by simp [results, Tryz.results84, go_sem, l0, l1]) rfl ⟨by rw [HV.out]; rfl, (by repeat (first | exact HB.out | (with_reducible refine Bel.drwN ?_ _) | (with_reducible refine Bel.drw ?_) | (with_reducible refine Bel.al ?_ _) | ((with_reducible refine Bel.st2 ?_ ?_ _); (show _ ≤ _); (simp only []; omega))))⟩
            · rcases q
              · simp at h6
              · clear h5 h6
                go_wp2
                exact bodyPost_ret (v := .tuple #[.agg #[.int .i64 (-a), .int .i64 c], .int .i64 0]) (by simp [results, Tryz.results84, go_sem, l0, l1]) rfl ⟨by rw [HV.out]; rfl, (by repeat (first | exact HB.out | (with_reducible refine Bel.drwN ?_ _) | (with_reducible refine Bel.drw ?_) | (with_reducible refine Bel.al ?_ _) | ((with_reducible refine Bel.st2 ?_ ?_ _); (show _ ≤ _); (simp only []; omega))))⟩
      · have HV : Hid (prs (rn body.data.toList) m = .tuple #[.agg #[.int .i64 0, .int .i64 0], .int .i64 3]) := by
          show prs _ _ = _
          rw [HSS.out]
          unfold prs
          rw [hj]
          rfl
        rcases r
        · rcases l
          · rcases h3 : (b == 0)
            · rcases h4 : (p && c == 0)
              · rcases h5 : decide (6 < c)
                · simp only [rej, h3, h4, h5, Bool.false_or, Bool.and_eq_true, Bool.not_eq_true'] at hj
                  obtain ⟨rfl, rfl⟩ := hj
                  have h5' : ¬ 6 < c := by simpa using h5
                  rcases p
                  · clear h4 h5
                    go_wp2
                    exact bodyPost_ret (v := .tuple #[.agg #[.int .i64 0, .int .i64 0], .int .i64 3]) (by simp [results, Tryz.results84, go_sem, l0, l1]) rfl ⟨by rw [HV.out], (by repeat (first | exact HB.out | (with_reducible refine Bel.drwN ?_ _) | (with_reducible refine Bel.drw ?_) | (with_reducible refine Bel.al ?_ _) | ((with_reducible refine Bel.st2 ?_ ?_ _); (show _ ≤ _); (simp only []; omega))))⟩
                  · simp only [Bool.true_and] at h4
                    clear h5
                    go_wp2
                    exact bodyPost_ret (v := .tuple #[.agg #[.int .i64 0, .int .i64 0], .int .i64 3]) (by simp [results, Tryz.results84, go_sem, l0, l1]) rfl ⟨by rw [HV.out], (by repeat (first | exact HB.out | (with_reducible refine Bel.drwN ?_ _) | (with_reducible refine Bel.drw ?_) | (with_reducible refine Bel.al ?_ _) | ((with_reducible refine Bel.st2 ?_ ?_ _); (show _ ≤ _); (simp only []; omega))))⟩
                · have h5' : 6 < c := by simpa using h5
                  have h4' : (c == 0) = false := by simp; omega
                  clear h4 h5 hj
                  rcases p
                  · go_wp2
                    exact bodyPost_ret (v := .tuple #[.agg #[.int .i64 0, .int .i64 0], .int .i64 3]) (by simp [results, Tryz.results84, go_sem, l0, l1]) rfl ⟨by rw [HV.out], (by repeat (first | exact HB.out | (with_reducible refine Bel.drwN ?_ _) | (with_reducible refine Bel.drw ?_) | (with_reducible refine Bel.al ?_ _) | ((with_reducible refine Bel.st2 ?_ ?_ _); (show _ ≤ _); (simp only []; omega))))⟩
                  · go_wp2
                    exact bodyPost_ret (v := .tuple #[.agg #[.int .i64 0, .int .i64 0], .int .i64 3]) (by simp [results, Tryz.results84, go_sem, l0, l1]) rfl ⟨by rw [HV.out], (by repeat (first | exact HB.out | (with_reducible refine Bel.drwN ?_ _) | (with_reducible refine Bel.drw ?_) | (with_reducible refine Bel.al ?_ _) | ((with_reducible refine Bel.st2 ?_ ?_ _); (show _ ≤ _); (simp only []; omega))))⟩
              · rcases p
                · simp at h4
                · simp only [Bool.true_and] at h4
                  clear hj
                  go_wp2
                  exact bodyPost_ret (v := .tuple #[.agg #[.int .i64 0, .int .i64 0], .int .i64 3]) (by simp [results, Tryz.results84, go_sem, l0, l1]) rfl ⟨by rw [HV.out], (by repeat (first | exact HB.out | (with_reducible refine Bel.drwN ?_ _) | (with_reducible refine Bel.drw ?_) | (with_reducible refine Bel.al ?_ _) | ((with_reducible refine Bel.st2 ?_ ?_ _); (show _ ≤ _); (simp only []; omega))))⟩
            · clear hj
              go_wp2
              exact bodyPost_ret (v := .tuple #[.agg #[.int .i64 0, .int .i64 0], .int .i64 3]) (by simp [results, Tryz.results84, go_sem, l0, l1]) rfl ⟨by rw [HV.out], (by repeat (first | exact HB.out | (with_reducible refine Bel.drwN ?_ _) | (with_reducible refine Bel.drw ?_) | (with_reducible refine Bel.al ?_ _) | ((with_reducible refine Bel.st2 ?_ ?_ _); (show _ ≤ _); (simp only []; omega))))⟩
          · clear hj
            go_wp2
            exact bodyPost_ret (v := .tuple #[.agg #[.int .i64 0, .int .i64 0], .int .i64 3]) (by simp [results, Tryz.results84, go_sem, l0, l1]) rfl ⟨by rw [HV.out], (by repeat (first | exact HB.out | (with_reducible refine Bel.drwN ?_ _) | (with_reducible refine Bel.drw ?_) | (with_reducible refine Bel.al ?_ _) | ((with_reducible refine Bel.st2 ?_ ?_ _); (show _ ≤ _); (simp only []; omega))))⟩
        · clear hj
          go_wp2
          exact bodyPost_ret (v := .tuple #[.agg #[.int .i64 0, .int .i64 0], .int .i64 3]) (by simp [results, Tryz.results84, go_sem, l0, l1]) rfl ⟨by rw [HV.out], (by repeat (first | exact HB.out | (with_reducible refine Bel.drwN ?_ _) | (with_reducible refine Bel.drw ?_) | (with_reducible refine Bel.al ?_ _) | ((with_reducible refine Bel.st2 ?_ ?_ _); (show _ ≤ _); (simp only []; omega))))⟩
end Go.Proofs.YtpbnabibnkohdaaGreatDoor.Un
namespace Go.Proofs.YtpbnabibnkohdaaGreatDoor.Un
open Go.Lib
set_option linter.unusedVariables false
def isD (c : UInt8) : Prop := 48 ≤ c.toNat ∧ c.toNat ≤ 57
def allD (l : List UInt8) : Prop := ∀ c ∈ l, isD c
/-- the number of a list of digits -/
def val (l : List UInt8) : Nat := l.foldl (fun v c => 10 * v + (c.toNat - 48)) 0
theorem val_snoc (l : List UInt8) (c : UInt8) : val (l ++ [c]) = 10 * val l + (c.toNat - 48) := by simp [val]
def nz (l : List UInt8) : Bool := l.any fun c => c != 48
theorem nz_snoc (l : List UInt8) (c : UInt8) : nz (l ++ [c]) = (nz l || c != 48) := by simp [nz]
def ld (l : List UInt8) : Bool := decide (2 ≤ l.length) && (l.head? == some 48)
def capN (n : Nat) : Int := cap (n : Int)
theorem u8_eq {c : UInt8} (h : c.toNat = 48) : c = 48 := UInt8.toNat_inj.1 (by simpa using h)
theorem u8_of {d : Nat} (h : d < 10) : (UInt8.ofNat (48 + d)).toNat = 48 + d := by rw [UInt8.toNat_ofNat']; omega
theorem cap_step (n d : Nat) : cap (10 * capN n + (d : Int)) = capN (10 * n + d) := by
  unfold capN cap
  split <;> split <;> split <;> omega
theorem snoc_ind {P : List UInt8 → Prop} (h0 : P []) (h1 : ∀ l c, P l → P (l ++ [c])) (l : List UInt8) : P l := by
  have : ∀ n (l : List UInt8), l.length = n → P l := by
    intro n
    induction n with
    | zero => intro l h; rw [List.eq_nil_of_length_eq_zero h]; exact h0
    | succ n ih =>
      intro l h
      have hne : l ≠ [] := by intro e; rw [e] at h; simp at h
      rw [← List.dropLast_concat_getLast hne]
      exact h1 _ _ (ih _ (by simp [h]))
  exact this _ l rfl
theorem allD_snoc {l : List UInt8} {c : UInt8} (h : allD (l ++ [c])) : allD l ∧ isD c := ⟨fun x hx => h x (by simp [hx]), h c (by simp)⟩
/-- what a digit does -/
theorem take_digit (S : Sc) (c : UInt8) (h : isD c) : S.take c.toNat = ({ S with some := S.some || c != 48 }).digit (((c.toNat - 48 : Nat) : Int)) := by
  unfold isD at h
  unfold Sc.take
  rcases Nat.lt_or_ge 48 c.toNat with h1 | h1
  · rw [if_pos ⟨by omega, h.2⟩]
    have hn : (c != 48) = true := by
      rw [bne_iff_ne]; intro e; rw [e] at h1; simp at h1
    rw [hn, Bool.or_true]
    congr 1
    omega
  · have e : c.toNat = 48 := by omega
    rw [if_neg (by omega), if_pos e, u8_eq e]
    simp
theorem ld_snoc (l : List UInt8) (c : UInt8) (h : allD l) : ld (l ++ [c]) = (ld l || ((l.length : Int) == 1 && capN (val l) == 0)) := by
  match l, h with
  | [], _ => simp [ld]
  | [x], h =>
    have hx := h x (by simp)
    unfold isD at hx
    have hc : capN (val [x]) = ((x.toNat - 48 : Nat) : Int) := by
      unfold capN cap val
      simp
      intro hh; omega
    rw [hc]
    simp [ld]
    by_cases e : x = 48
    · subst e; rfl
    · have e2 : x.toNat ≠ 48 := fun h => e (u8_eq h)
      rw [beq_eq_false_iff_ne.2 e]
      symm
      rw [beq_eq_false_iff_ne]
      omega
  | x :: y :: l, _ =>
    have e : ((((x :: y :: l).length : Nat) : Int) == 1) = false := by simp; omega
    rw [e]
    simp [ld]
/-- the scan of digits -/
theorem rn_digits (l : List UInt8) : allD l → rn l = ⟨capN (val l), l.length, 0, false, ld l, nz l, false⟩ := by
  refine snoc_ind (P := fun l => allD l → rn l = ⟨capN (val l), l.length, 0, false, ld l, nz l, false⟩) ?_ ?_ l
  · intro _; rfl
  · intro l c ih h
    obtain ⟨h1, h2⟩ := allD_snoc h
    rw [rn_snoc, ih h1, take_digit _ c h2, val_snoc, nz_snoc, ld_snoc l c h1, ← cap_step]
    simp [Sc.digit]
/-- the scan of digits, a point, and digits -/
theorem rn_point (A : List UInt8) (hA : allD A) (B : List UInt8) : allD B → rn (A ++ 46 :: B) = ⟨capN (val (A ++ B)), A.length, B.length, true, ld A, nz (A ++ B), false⟩ := by
  refine snoc_ind (P := fun B => allD B → rn (A ++ 46 :: B) = ⟨capN (val (A ++ B)), A.length, B.length, true, ld A, nz (A ++ B), false⟩) ?_ ?_ B
  · intro _
    rw [List.append_nil, show A ++ 46 :: [] = A ++ [46] from rfl, rn_snoc, rn_digits A hA]
    show Sc.take _ 46 = _
    unfold Sc.take
    simp
  · intro l c ih h
    obtain ⟨h1, h2⟩ := allD_snoc h
    rw [show A ++ 46 :: (l ++ [c]) = (A ++ 46 :: l) ++ [c] by simp, rn_snoc, ih h1, take_digit _ c h2, ← List.append_assoc, val_snoc, nz_snoc, ← cap_step]
    simp [Sc.digit]
theorem take_wrong (S : Sc) (c : Nat) (h : S.wrong = true) : (S.take c).wrong = true := by
  unfold Sc.take
  split
  · unfold Sc.digit; split <;> exact h
  · split
    · unfold Sc.digit; split <;> exact h
    · split
      · exact h
      · rfl
/-- what is not refused for a sign that does not belong there -/
theorem rn_shape (l : List UInt8) : (rn l).wrong = false → allD l ∨ ∃ A B, l = A ++ 46 :: B ∧ allD A ∧ allD B := by
  refine snoc_ind (P := fun l => (rn l).wrong = false → allD l ∨ ∃ A B, l = A ++ 46 :: B ∧ allD A ∧ allD B) ?_ ?_ l
  · intro _; exact .inl (by simp [allD])
  · intro l c ih h
    rw [rn_snoc] at h
    have hw : (rn l).wrong = false := by
      rcases hx : (rn l).wrong
      · rfl
      · have := take_wrong _ c.toNat hx; rw [this] at h; cases h
    have hc : isD c ∨ (c = 46 ∧ (rn l).point = false) := by
      rcases Nat.lt_or_ge c.toNat 48 with h1 | h1
      · by_cases h2 : c.toNat = 46 ∧ (rn l).point = false
        · exact .inr ⟨UInt8.toNat_inj.1 (by simpa using h2.1), h2.2⟩
        · unfold Sc.take at h
          rw [if_neg (by omega), if_neg (by omega), if_neg h2] at h
          cases h
      · rcases Nat.lt_or_ge 57 c.toNat with h2 | h2
        · unfold Sc.take at h
          rw [if_neg (by omega), if_neg (by omega), if_neg (by omega)] at h
          cases h
        · exact .inl ⟨h1, h2⟩
    rcases ih hw with hd | ⟨A, B, rfl, hA, hB⟩
    · rcases hc with hc | ⟨rfl, _⟩
      · exact .inl (fun x hx => by
          rcases List.mem_append.1 hx with h' | h'
          · exact hd x h'
          · simp at h'; subst h'; exact hc)
      · exact .inr ⟨l, [], rfl, hd, by simp [allD]⟩
    · rcases hc with hc | ⟨_, hp⟩
      · refine .inr ⟨A, B ++ [c], by simp, hA, fun x hx => ?_⟩
        rcases List.mem_append.1 hx with h' | h'
        · exact hB x h'
        · simp at h'; subst h'; exact hc
      · rw [rn_point A hA B hB] at hp; cases hp
/-- the digits of a number -/
theorem dec_small {u : Nat} (h : u < 10) : decDigits u = [UInt8.ofNat (48 + u)] := by rw [decDigits, dif_pos h]
theorem dec_big {u : Nat} (h : ¬ u < 10) : decDigits u = decDigits (u / 10) ++ [UInt8.ofNat (48 + u % 10)] := by rw [decDigits, dif_neg h]
theorem dec_facts (u : Nat) : allD (decDigits u) ∧ val (decDigits u) = u ∧ nz (decDigits u) = decide (1 ≤ u) ∧ (1 ≤ u → ∀ c, (decDigits u).head? = some c → c ≠ 48) := by
  induction u using Nat.strongRecOn with
  | _ u ih =>
    by_cases h : u < 10
    · rw [dec_small h]
      have e := u8_of h
      refine ⟨?_, ?_, ?_, ?_⟩
      · intro c hc; rw [List.mem_singleton.1 hc]; unfold isD; omega
      · simp only [val, List.foldl_cons, List.foldl_nil]; omega
      · simp only [nz, List.any_cons, List.any_nil, Bool.or_false]
        rcases Nat.eq_zero_or_pos u with h0 | h0
        · subst h0; rfl
        · rw [decide_eq_true (by omega : 1 ≤ u), bne_iff_ne]
          intro e2; rw [e2] at e; have : (48 : UInt8).toNat = 48 := rfl; omega
      · intro h1 c hc e2
        injection hc with hc
        rw [hc, e2] at e
        have : (48 : UInt8).toNat = 48 := rfl
        omega
    · rw [dec_big h]
      obtain ⟨a, b, c, d⟩ := ih (u / 10) (by omega)
      have e := u8_of (show u % 10 < 10 by omega)
      refine ⟨?_, ?_, ?_, ?_⟩
      · intro x hx
        rcases List.mem_append.1 hx with h' | h'
        · exact a x h'
        · rw [List.mem_singleton.1 h']; unfold isD; omega
      · rw [val_snoc, b, e]; omega
      · rw [nz_snoc, c, decide_eq_true (by omega : 1 ≤ u / 10), decide_eq_true (by omega : 1 ≤ u)]; rfl
      · intro h1 x hx
        refine d (by omega) x ?_
        have hl : 0 < (decDigits (u / 10)).length := by rw [decDigits_length]; exact nDigits_pos _
        rcases hd : decDigits (u / 10) with _ | ⟨y, t⟩
        · rw [hd] at hl; simp at hl
        · rw [hd] at hx; simpa using hx
/-- a list of digits is the digits of its number behind zeros -/
theorem digits_form (D : List UInt8) : allD D → D ≠ [] → D = List.replicate (D.length - nDigits (val D)) 48 ++ decDigits (val D) ∧ nDigits (val D) ≤ D.length := by
  refine snoc_ind (P := fun D => allD D → D ≠ [] → D = List.replicate (D.length - nDigits (val D)) 48 ++ decDigits (val D) ∧ nDigits (val D) ≤ D.length) ?_ ?_ D
  · intro _ h; exact absurd rfl h
  · intro l c ih h _
    obtain ⟨h1, h2⟩ := allD_snoc h
    have hcb : c.toNat - 48 < 10 := by unfold isD at h2; omega
    have hc : UInt8.ofNat (48 + (c.toNat - 48)) = c := by
      apply UInt8.toNat_inj.1
      rw [u8_of hcb]; unfold isD at h2; omega
    rw [val_snoc, List.length_append]
    by_cases hl : l = []
    · subst hl
      have e0 : val [] = 0 := rfl
      rw [e0, Nat.mul_zero, Nat.zero_add, nDigits_small hcb, dec_small hcb, hc]
      exact ⟨rfl, by simp⟩
    · obtain ⟨e, hle⟩ := ih h1 hl
      have hlen : 0 < l.length := List.length_pos_iff.2 hl
      rcases Nat.eq_zero_or_pos (val l) with h0 | h0
      · rw [h0] at e ⊢
        have e1 : decDigits 0 = [48] := by rw [dec_small (by omega)]; rfl
        rw [e1, nDigits_small (by omega)] at e
        rw [Nat.mul_zero, Nat.zero_add, nDigits_small hcb, dec_small hcb, hc]
        refine ⟨?_, by simp⟩
        have : l = List.replicate l.length 48 := by
          conv => lhs; rw [e]
          have : l.length = (l.length - 1) + 1 := by omega
          conv => rhs; rw [this, List.replicate_succ']
        conv => lhs; rw [this]
        simp
      · have hb : ¬ 10 * val l + (c.toNat - 48) < 10 := by omega
        rw [nDigits_big hb, dec_big hb, show (10 * val l + (c.toNat - 48)) / 10 = val l by omega, show (10 * val l + (c.toNat - 48)) % 10 = c.toNat - 48 by omega, hc]
        refine ⟨?_, by simp; omega⟩
        rw [show l.length + [c].length - (nDigits (val l) + 1) = l.length - nDigits (val l) by simp, ← List.append_assoc, ← e]
end Go.Proofs.YtpbnabibnkohdaaGreatDoor.Un
namespace Go.Proofs.YtpbnabibnkohdaaGreatDoor.Un
open Go.Lib
set_option linter.unusedVariables false
/-- the digits, with zeros ahead of them so that one stands ahead of the places -/
def pad (n p : Nat) : List UInt8 := List.replicate (p + 1 - nDigits n) 48 ++ decDigits n
def fb (n p : Nat) : List UInt8 := if p = 0 then pad n p else (pad n p).take ((pad n p).length - p) ++ 46 :: (pad n p).drop ((pad n p).length - p)
def fm (x : Int) (p : Nat) : List UInt8 := if x < 0 then 45 :: fb x.natAbs p else fb x.natAbs p
theorem pad_len (n p : Nat) : (pad n p).length = max (p + 1) (nDigits n) := by
  have := nDigits_pos n
  simp only [pad, List.length_append, List.length_replicate, decDigits_length]; omega
theorem val_zeros (k : Nat) (l : List UInt8) : val (List.replicate k 48 ++ l) = val l := by
  have : ∀ k, (List.replicate k (48 : UInt8)).foldl (fun v c => 10 * v + (c.toNat - 48)) 0 = 0 := by
    intro k
    induction k with
    | zero => rfl
    | succ k ih => rw [List.replicate_succ', List.foldl_append, ih]; rfl
  unfold val
  rw [List.foldl_append, this]
theorem nz_zeros (k : Nat) (l : List UInt8) : nz (List.replicate k 48 ++ l) = nz l := by
  unfold nz
  rw [List.any_append]
  have : (List.replicate k (48 : UInt8)).any (fun c => c != 48) = false := by
    induction k with
    | zero => rfl
    | succ k ih => rw [List.replicate_succ, List.any_cons, ih]; rfl
  rw [this, Bool.false_or]
theorem pad_facts (n p : Nat) : allD (pad n p) ∧ val (pad n p) = n ∧ nz (pad n p) = decide (1 ≤ n) ∧ (p + 2 ≤ (pad n p).length → (pad n p).head? ≠ some 48) := by
  obtain ⟨a, b, c, d⟩ := dec_facts n
  refine ⟨?_, ?_, ?_, ?_⟩
  · intro x hx
    rcases List.mem_append.1 hx with h | h
    · rw [(List.mem_replicate.1 h).2]; exact ⟨by decide, by decide⟩
    · exact a x h
  · unfold pad; rw [val_zeros, b]
  · unfold pad; rw [nz_zeros, c]
  · intro h
    rw [pad_len] at h
    have h2 : p + 1 - nDigits n = 0 := by omega
    have h3 : 1 ≤ n := by
      rcases Nat.eq_zero_or_pos n with h0 | h0
      · subst h0; rw [nDigits_small (by omega)] at h; omega
      · exact h0
    unfold pad
    rw [h2]
    intro e
    exact d h3 48 e rfl
theorem allD_take {l : List UInt8} (h : allD l) (k : Nat) : allD (l.take k) := fun x hx => h x (List.mem_of_mem_take hx)
theorem allD_drop {l : List UInt8} (h : allD l) (k : Nat) : allD (l.drop k) := fun x hx => h x (List.mem_of_mem_drop hx)
theorem allD_head {l : List UInt8} (h : allD l) {c : UInt8} (hc : l.head? = some c) : c ≠ 45 := by
  rintro rfl
  have := h 45 (List.mem_of_mem_head? hc)
  unfold isD at this
  have e : (45 : UInt8).toNat = 45 := rfl
  omega
theorem head_app {l r : List UInt8} (h : l ≠ []) : (l ++ r).head? = l.head? := by
  rcases l with _ | ⟨c, t⟩
  · exact absurd rfl h
  · rfl
theorem fb_head (n p : Nat) {c : UInt8} (hc : (fb n p).head? = some c) : c ≠ 45 := by
  unfold fb at hc
  split at hc
  · exact allD_head (pad_facts n p).1 hc
  · have hl := pad_len n p
    have hne : (pad n p).take ((pad n p).length - p) ≠ [] := by
      intro e
      have := congrArg List.length e
      simp at this
      omega
    rw [head_app hne] at hc
    exact allD_head (allD_take (pad_facts n p).1 _) hc
theorem capN_le {n : Nat} (h : n ≤ 1000000000) : capN n = n := by unfold capN cap; rw [if_pos (by omega)]
/-- the text of a decimal is read as this decimal -/
theorem fm_back (x : Int) (p : Nat) (h0 : -1000000000 ≤ x) (h1 : x ≤ 1000000000) (hp : p ≤ 6) :
    prs (rn (fb x.natAbs p)) (decide (x < 0)) = .tuple #[.agg #[.int .i64 x, .int .i64 (p : Int)], .int .i64 0] := by
  obtain ⟨a, b, c, d⟩ := pad_facts x.natAbs p
  have hl := pad_len x.natAbs p
  have hn : x.natAbs ≤ 1000000000 := by omega
  have fin : ∀ (wh : Int) (pt : Bool), 1 ≤ wh → (pt = true → 1 ≤ p) → (pt = false → p = 0) →
      prs ⟨capN x.natAbs, wh, (p : Int), pt, false, decide (1 ≤ x.natAbs), false⟩ (decide (x < 0)) = .tuple #[.agg #[.int .i64 x, .int .i64 (p : Int)], .int .i64 0] := by
    intro wh pt g1 g2 g3
    unfold prs
    rw [if_neg, capN_le hn, if_neg (by simp only []; omega)]
    · have hval : (if decide (x < 0) = true then -((x.natAbs : Nat) : Int) else ((x.natAbs : Nat) : Int)) = x := by
        rcases Int.lt_or_le x 0 with hx | hx
        · rw [if_pos (decide_eq_true hx)]; omega
        · rw [if_neg (by rw [decide_eq_false (by omega)]; decide)]; omega
      simp only [hval]
    · simp only [rej, Bool.false_or, Bool.or_eq_true, Bool.and_eq_true, beq_iff_eq, decide_eq_true_eq, Bool.not_eq_true', decide_eq_false_iff_not]
      rintro (h | ⟨h, h'⟩ | h | ⟨h, h'⟩)
      · omega
      · have := g2 h; omega
      · omega
      · omega
  unfold fb
  split
  · rename_i e
    subst e
    rw [rn_digits _ a, b, c]
    have hld : ld (pad x.natAbs 0) = false := by
      unfold ld
      rcases Nat.lt_or_ge (pad x.natAbs 0).length 2 with h | h
      · rw [decide_eq_false (by omega)]; rfl
      · rw [Bool.and_eq_false_iff]; right
        exact beq_eq_false_iff_ne.2 (d h)
    rw [hld]
    exact fin _ false (by omega) (by simp) (fun _ => rfl)
  · rename_i e
    have hA := allD_take a ((pad x.natAbs p).length - p)
    have hB := allD_drop a ((pad x.natAbs p).length - p)
    rw [rn_point _ hA _ hB, List.take_append_drop, b, c]
    have hld : ld ((pad x.natAbs p).take ((pad x.natAbs p).length - p)) = false := by
      unfold ld
      rcases Nat.lt_or_ge (pad x.natAbs p).length (p + 2) with h | h
      · rw [decide_eq_false (by simp; omega)]; rfl
      · rw [Bool.and_eq_false_iff]; right
        refine beq_eq_false_iff_ne.2 ?_
        rw [List.head?_take, if_neg (by omega)]
        exact d h
    rw [hld, show (((pad x.natAbs p).drop ((pad x.natAbs p).length - p)).length : Int) = (p : Int) by simp; omega]
    exact fin _ true (by simp; omega) (fun _ => by omega) (by simp)
/-- what is read has the text that it was read from -/
theorem fm_again (l : List UInt8) (m : Bool) (X P : Int) (h : prs (rn l) m = .tuple #[.agg #[.int .i64 X, .int .i64 P], .int .i64 0]) :
    ∃ p : Nat, P = (p : Int) ∧ p ≤ 6 ∧ -1000000000 ≤ X ∧ X ≤ 1000000000 ∧ fb X.natAbs p = l ∧ decide (X < 0) = m := by
  unfold prs at h
  split at h
  · simp at h
  · rename_i hr
    split at h
    · simp at h
    · rename_i hd
      have hr' : rej (rn l) m = false := by simpa using hr
      simp only [rej, Bool.or_eq_false_iff] at hr'
      obtain ⟨r1, r2, r3, r4, r5, r6⟩ := hr'
      simp only [Value.tuple.injEq, Array.mk.injEq, List.cons.injEq, Value.agg.injEq, Value.int.injEq, true_and, and_true] at h
      obtain ⟨hX, hP⟩ := h
      have key : ∀ (n : Nat), (rn l).digits = capN n → (rn l).some = decide (1 ≤ n) → -1000000000 ≤ X ∧ X ≤ 1000000000 ∧ X.natAbs = n ∧ decide (X < 0) = m := by
        intro n e1 e2
        have hle : n ≤ 1000000000 := by
          rw [e1] at hd
          unfold capN cap at hd
          split at hd <;> omega
        rw [e1, capN_le hle] at hX
        rcases m
        · simp only [Bool.false_eq_true, if_false] at hX
          exact ⟨by omega, by omega, by omega, decide_eq_false (by omega)⟩
        · simp only [if_true] at hX
          rw [e2] at r6
          have h1 : 1 ≤ n := by simpa using r6
          exact ⟨by omega, by omega, by omega, decide_eq_true (by omega)⟩
      rcases rn_shape l r1 with hD | ⟨A, B, rfl, hA, hB⟩
      · have E := rn_digits l hD
        have e1 : (rn l).digits = capN (val l) := by rw [E]
        have e2 : (rn l).leading = ld l := by rw [E]
        have e3 : (rn l).whole = (l.length : Int) := by rw [E]
        have e4 : (rn l).places = 0 := by rw [E]
        have e5 : (rn l).some = nz l := by rw [E]
        rw [e2] at r2
        rw [e3] at r3
        rw [e4] at hP
        clear E
        have hne : l ≠ [] := by rintro rfl; simp at r3
        obtain ⟨hf, hle⟩ := digits_form l hD hne
        have hnz : nz l = decide (1 ≤ val l) := by
          conv => lhs; rw [hf]
          rw [nz_zeros, (dec_facts _).2.2.1]
        obtain ⟨k1, k2, k3, k4⟩ := key (val l) e1 (e5.trans hnz)
        refine ⟨0, hP.symm, by omega, k1, k2, ?_, k4⟩
        rw [k3]
        have hk : l.length - nDigits (val l) = 0 := by
          rcases Nat.eq_zero_or_pos (l.length - nDigits (val l)) with h0 | h0
          · exact h0
          · exfalso
            have hp := nDigits_pos (val l)
            simp only [ld] at r2
            rw [decide_eq_true (by omega : 2 ≤ l.length), Bool.true_and] at r2
            have : l.head? = some 48 := by
              rw [hf]
              obtain ⟨k, hk⟩ : ∃ k, l.length - nDigits (val l) = k + 1 := ⟨_, (Nat.sub_add_cancel h0).symm⟩
              rw [hk, List.replicate_succ]; rfl
            rw [this] at r2
            simp at r2
        rw [hk] at hf
        simp only [fb, if_true, pad]
        rw [show 0 + 1 - nDigits (val l) = 0 by have := nDigits_pos (val l); omega]
        exact hf.symm
      · have E := rn_point A hA B hB
        have e1 : (rn (A ++ 46 :: B)).digits = capN (val (A ++ B)) := by rw [E]
        have e2 : (rn (A ++ 46 :: B)).leading = ld A := by rw [E]
        have e3 : (rn (A ++ 46 :: B)).whole = (A.length : Int) := by rw [E]
        have e4 : (rn (A ++ 46 :: B)).places = (B.length : Int) := by rw [E]
        have e5 : (rn (A ++ 46 :: B)).some = nz (A ++ B) := by rw [E]
        have e6 : (rn (A ++ 46 :: B)).point = true := by rw [E]
        rw [e2] at r2
        rw [e3] at r3
        rw [e4, e6] at r4
        rw [e4] at r5 hP
        clear E
        have hAB : allD (A ++ B) := fun x hx => by
          rcases List.mem_append.1 hx with h' | h'
          · exact hA x h'
          · exact hB x h'
        have hA0 : 1 ≤ A.length := by
          rcases Nat.eq_zero_or_pos A.length with h0 | h0
          · simp [h0] at r3
          · exact h0
        have hB0 : 1 ≤ B.length := by
          rcases Nat.eq_zero_or_pos B.length with h0 | h0
          · simp [h0] at r4
          · exact h0
        have hB6 : B.length ≤ 6 := by have := of_decide_eq_false r5; omega
        have hne : A ++ B ≠ [] := by
          intro e; have := congrArg List.length e; rw [List.length_append, List.length_nil] at this; omega
        obtain ⟨hf, hle⟩ := digits_form (A ++ B) hAB hne
        have hnz : nz (A ++ B) = decide (1 ≤ val (A ++ B)) := by
          conv => lhs; rw [hf]
          rw [nz_zeros, (dec_facts _).2.2.1]
        obtain ⟨k1, k2, k3, k4⟩ := key (val (A ++ B)) e1 (e5.trans hnz)
        refine ⟨B.length, hP.symm, hB6, k1, k2, ?_, k4⟩
        rw [k3]
        have hlen : (A ++ B).length = A.length + B.length := List.length_append
        have hk : (A ++ B).length - nDigits (val (A ++ B)) = B.length + 1 - nDigits (val (A ++ B)) := by
          rcases Nat.lt_or_ge A.length 2 with h2 | h2
          · omega
          · rcases Nat.eq_zero_or_pos ((A ++ B).length - nDigits (val (A ++ B))) with h0 | h0
            · omega
            · exfalso
              simp only [ld] at r2
              rw [decide_eq_true h2, Bool.true_and] at r2
              have h48 : (A ++ B).head? = some 48 := by
                rw [hf]
                obtain ⟨k, hk⟩ : ∃ k, (A ++ B).length - nDigits (val (A ++ B)) = k + 1 := ⟨_, (Nat.sub_add_cancel h0).symm⟩
                rw [hk, List.replicate_succ]; rfl
              rw [head_app (by rintro rfl; simp at hA0)] at h48
              rw [h48] at r2
              simp at r2
        have hpad : pad (val (A ++ B)) B.length = A ++ B := by
          unfold pad
          rw [← hk]
          exact hf.symm
        simp only [fb, hpad]
        rw [if_neg (by omega), show (A ++ B).length - B.length = A.length by omega, List.take_left, List.drop_left]
theorem pre_of (l : List UInt8) (h : hasPrefix l [45] = true) : l = 45 :: trimPrefix l [45] := by
  unfold trimPrefix
  rw [if_pos h]
  unfold hasPrefix at h
  rcases l with _ | ⟨c, t⟩
  · simp at h
  · simp at h; rw [← h]; rfl
theorem pre_no (l : List UInt8) (h : hasPrefix l [45] = false) : trimPrefix l [45] = l := by
  unfold trimPrefix
  rw [if_neg (by rw [h]; decide)]
theorem fm_pre (x : Int) (p : Nat) : hasPrefix (fm x p) [45] = decide (x < 0) ∧ trimPrefix (fm x p) [45] = fb x.natAbs p := by
  unfold fm
  split
  · rename_i h
    have e : hasPrefix (45 :: fb x.natAbs p) [45] = true := by simp [hasPrefix]
    refine ⟨e.trans (decide_eq_true h).symm, ?_⟩
    have := pre_of _ e
    exact (List.cons.inj this).2.symm
  · rename_i h
    have e : hasPrefix (fb x.natAbs p) [45] = false := by
      unfold hasPrefix
      rcases hb : fb x.natAbs p with _ | ⟨c, t⟩
      · rfl
      · have := fb_head x.natAbs p (c := c) (by rw [hb]; rfl)
        simp [List.isPrefixOf]
        exact fun e => this e.symm
    exact ⟨by rw [e, decide_eq_false h], pre_no _ e⟩
end Go.Proofs.YtpbnabibnkohdaaGreatDoor.Un
namespace Go.Proofs.YtpbnabibnkohdaaGreatDoor.Rm
set_option linter.unusedVariables false
abbrev Rp := Int × Int
/-- time and value of the i-th reading -/
def tm (l : List Rp) (i : Nat) : Int := (l.getD i (0, 0)).1
def vl (l : List Rp) (i : Nat) : Int := (l.getD i (0, 0)).2
def far : Int := 1099511627777
/-- how many readings at the front have a time before t -/
def lb : List Rp → Int → Nat
  | [], _ => 0
  | p :: l, t => if p.1 < t then lb l t + 1 else 0
theorem lb_eq (l : List Rp) (t : Int) (i : Nat) (h1 : ∀ j, j < i → tm l j < t) (h2 : i ≤ l.length) (h3 : i < l.length → t ≤ tm l i) : lb l t = i := by
  induction l generalizing i with
  | nil => simp at h2; subst h2; rfl
  | cons p l ih =>
    unfold lb
    rcases i with _ | i
    · have := h3 (by simp)
      simp [tm] at this
      rw [if_neg (by omega)]
    · have h0 := h1 0 (by omega)
      simp [tm] at h0
      rw [if_pos h0, ih i (fun j hj => by have := h1 (j + 1) (by omega); simpa [tm] using this) (by simpa using h2) (fun hi => by have := h3 (by simpa using hi); simpa [tm] using this)]
theorem lb_le (l : List Rp) (t : Int) : lb l t ≤ l.length := by
  induction l with
  | nil => simp [lb]
  | cons p l ih => unfold lb; split <;> simp; exact ih
theorem lb_lt (l : List Rp) (t : Int) : ∀ j, j < lb l t → tm l j < t := by
  induction l with
  | nil => intro j hj; simp [lb] at hj
  | cons p l ih =>
    intro j hj
    unfold lb at hj
    split at hj
    · rename_i h
      rcases j with _ | j
      · simpa [tm] using h
      · have := ih j (by omega)
        simpa [tm] using this
    · omega
theorem lb_ge (l : List Rp) (t : Int) (h : lb l t < l.length) : t ≤ tm l (lb l t) := by
  induction l with
  | nil => simp at h
  | cons p l ih =>
    unfold lb at h ⊢
    split
    · rename_i h2
      rw [if_pos h2] at h
      have := ih (by simpa using h)
      simpa [tm] using this
    · rename_i h2
      simp [tm]
      omega
/-- readings of the reader's make: times ascend -/
def Asc (l : List Rp) : Prop := (∀ i, i < l.length → 0 ≤ tm l i ∧ tm l i ≤ 1099511627776 ∧ -1000 ≤ vl l i ∧ vl l i ≤ 1000) ∧ (∀ i, i + 1 < l.length → tm l i < tm l (i + 1))
theorem Asc.lt {l : List Rp} (h : Asc l) {i j : Nat} (hij : i < j) (hj : j < l.length) : tm l i < tm l j := by
  induction j with
  | zero => omega
  | succ j ih =>
    have := h.2 j hj
    rcases Nat.lt_or_ge i j with h2 | h2
    · have := ih h2 (by omega); omega
    · obtain rfl : i = j := by omega
      exact this
theorem Asc.ge {l : List Rp} (h : Asc l) (t : Int) {j : Nat} (hj : lb l t ≤ j) (hl : j < l.length) : t ≤ tm l j := by
  have := lb_ge l t (by omega)
  rcases Nat.lt_or_ge (lb l t) j with h2 | h2
  · have := h.lt h2 hl; omega
  · rw [show j = lb l t by omega]; exact this
def flr (a b : Int) : Int := a / b
/-- the nearest integer, halves up -/
def hup (a b : Int) : Int := (2 * a + b) / (2 * b)
def bck (l : List Rp) (t : Int) : Int := if 0 < lb l t then t - tm l (lb l t - 1) else far
def ahd (l : List Rp) (t : Int) : Int := if lb l t < l.length then tm l (lb l t) - t else far
def bv (l : List Rp) (t : Int) : Int := if 0 < lb l t then vl l (lb l t - 1) else 0
def av (l : List Rp) (t : Int) : Int := if lb l t < l.length then vl l (lb l t) else 0
/-- the value at a time -/
def val (l : List Rp) (rule reach t : Int) : Int × Bool :=
  if lb l t < l.length ∧ tm l (lb l t) = t then (vl l (lb l t), true)
  else if rule = 1 then (if bck l t ≤ reach then (bv l t, true) else (0, false))
  else if rule = 2 then (if bck l t ≤ ahd l t ∧ bck l t ≤ reach then (bv l t, true) else if ahd l t < bck l t ∧ ahd l t ≤ reach then (av l t, true) else (0, false))
  else if rule = 3 then (if bck l t ≤ reach ∧ ahd l t ≤ reach then (hup (bv l t * ahd l t + av l t * bck l t) (bck l t + ahd l t), true) else (0, false))
  else (0, false)
theorem bck_in {l : List Rp} (h : Asc l) {t : Int} (h0 : 0 ≤ t) (h1 : t ≤ 1099511627776) : 1 ≤ bck l t ∧ bck l t ≤ 1099511627777 := by
  unfold bck far
  have := lb_le l t
  split
  · rename_i h2
    have a := lb_lt l t (lb l t - 1) (by omega)
    have b := h.1 (lb l t - 1) (by omega)
    omega
  · omega
theorem ahd_in {l : List Rp} (h : Asc l) {t : Int} (h0 : 0 ≤ t) (h1 : t ≤ 1099511627776) : 0 ≤ ahd l t ∧ ahd l t ≤ 1099511627777 := by
  unfold ahd far
  split
  · rename_i h2
    have a := lb_ge l t h2
    have b := h.1 (lb l t) h2
    omega
  · omega
/-- a reading at this very time -/
theorem lb_at {l : List Rp} (h : Asc l) {i : Nat} (hi : i < l.length) : lb l (tm l i) = i :=
  lb_eq l _ i (fun j hj => h.lt hj hi) (by omega) (fun _ => Int.le_refl _)
theorem val_at {l : List Rp} (h : Asc l) {i : Nat} (hi : i < l.length) (rule reach : Int) : val l rule reach (tm l i) = (vl l i, true) := by
  unfold val
  rw [lb_at h hi, if_pos ⟨hi, rfl⟩]
/-- a greater reach changes no value that is there -/
theorem val_reach (l : List Rp) (rule r r' t : Int) (hr : r ≤ r') (h : (val l rule r t).2 = true) : val l rule r' t = val l rule r t := by
  unfold val at h ⊢
  split
  · rfl
  · rename_i h0
    rw [if_neg h0] at h
    split
    · rename_i h1
      rw [if_pos h1] at h
      split at h
      · rename_i h2
        rw [if_pos (by omega), if_pos h2]
      · cases h
    · rename_i h1
      rw [if_neg h1] at h
      split
      · rename_i h1
        rw [if_pos h1] at h
        split at h
        · rename_i h2
          rw [if_pos (by omega), if_pos h2]
        · rename_i h2
          split at h
          · rename_i h3
            rw [if_neg (by omega), if_pos (by omega), if_neg h2, if_pos h3]
          · cases h
      · rename_i h1
        rw [if_neg h1] at h
        split
        · rename_i h1
          rw [if_pos h1] at h
          split at h
          · rename_i h2
            rw [if_pos (by omega), if_pos h2]
          · cases h
        · rfl
/-- Hold: a reading at most so far back -/
theorem val_hold {l : List Rp} (h : Asc l) {t : Int} (h0 : 0 ≤ t) (h1 : t ≤ 1099511627776) {r : Int} (r0 : 0 ≤ r) (r1 : r ≤ 1000) : (val l 1 r t).2 = true ↔ ∃ i, i < l.length ∧ 0 ≤ t - tm l i ∧ t - tm l i ≤ r := by
  have hle := lb_le l t
  unfold val
  split
  · rename_i h2
    exact ⟨fun _ => ⟨lb l t, h2.1, by omega⟩, fun _ => rfl⟩
  · rename_i h2
    rw [if_pos rfl]
    constructor
    · intro h3
      split at h3
      · rename_i h4
        unfold bck far at h4
        split at h4
        · have := lb_lt l t (lb l t - 1) (by omega)
          exact ⟨lb l t - 1, by omega, by omega, h4⟩
        · omega
      · cases h3
    · rintro ⟨i, hi, a, b⟩
      have hil : i < lb l t := by
        rcases Nat.lt_or_ge i (lb l t) with h3 | h3
        · exact h3
        · have e := h.ge t h3 hi
          have := lb_at h hi
          rw [show tm l i = t by omega] at this
          exact absurd ⟨by omega, by rw [this]; omega⟩ h2
      have : bck l t ≤ r := by
        unfold bck
        rw [if_pos (by omega)]
        rcases Nat.lt_or_ge i (lb l t - 1) with h3 | h3
        · have := h.lt h3 (by omega); omega
        · rw [show lb l t - 1 = i by omega]; exact b
      rw [if_pos this]
/-- Nearest: some reading so near -/
theorem val_near {l : List Rp} (h : Asc l) {t : Int} (h0 : 0 ≤ t) (h1 : t ≤ 1099511627776) {r : Int} (r0 : 0 ≤ r) (r1 : r ≤ 1000) : (val l 2 r t).2 = true ↔ ∃ i, i < l.length ∧ t - tm l i ≤ r ∧ tm l i - t ≤ r := by
  have hle := lb_le l t
  unfold val
  split
  · rename_i h2
    exact ⟨fun _ => ⟨lb l t, h2.1, by omega, by omega⟩, fun _ => rfl⟩
  · rename_i h2
    rw [if_neg (by decide), if_pos rfl]
    have hb : bck l t ≤ r → ∃ i, i < l.length ∧ t - tm l i ≤ r ∧ tm l i - t ≤ r := fun h4 => by
      unfold bck far at h4
      split at h4
      · have := lb_lt l t (lb l t - 1) (by omega)
        exact ⟨lb l t - 1, by omega, by omega, by omega⟩
      · omega
    have ha : ahd l t ≤ r → ∃ i, i < l.length ∧ t - tm l i ≤ r ∧ tm l i - t ≤ r := fun h4 => by
      unfold ahd far at h4
      split at h4
      · rename_i h5
        have := lb_ge l t h5
        exact ⟨lb l t, h5, by omega, by omega⟩
      · omega
    constructor
    · intro h3
      split at h3
      · rename_i h4
        exact hb h4.2
      · split at h3
        · rename_i h4
          exact ha h4.2
        · cases h3
    · rintro ⟨i, hi, a, b⟩
      have hor : bck l t ≤ r ∨ ahd l t ≤ r := by
        rcases Nat.lt_or_ge i (lb l t) with h3 | h3
        · refine .inl ?_
          unfold bck
          rw [if_pos (by omega)]
          rcases Nat.lt_or_ge i (lb l t - 1) with h4 | h4
          · have := h.lt h4 (by omega); omega
          · rw [show lb l t - 1 = i by omega]; exact a
        · refine .inr ?_
          unfold ahd
          rw [if_pos (by omega)]
          rcases Nat.lt_or_ge (lb l t) i with h4 | h4
          · have := h.lt h4 hi; omega
          · rw [show lb l t = i by omega]; exact b
      split
      · rfl
      · rename_i h4
        rw [if_pos (by omega)]
/-- Linear only where Hold and Nearest have one -/
theorem val_lin {l : List Rp} {t r : Int} (h : (val l 3 r t).2 = true) : (val l 1 r t).2 = true ∧ (val l 2 r t).2 = true := by
  unfold val at h ⊢
  split
  · exact ⟨rfl, rfl⟩
  · rename_i h2
    rw [if_neg h2, if_neg (by decide), if_neg (by decide), if_pos rfl] at h
    split at h
    · rename_i h3
      refine ⟨by rw [if_pos rfl, if_pos h3.1], ?_⟩
      rw [if_neg (by decide), if_pos rfl]
      split
      · rfl
      · rw [if_pos (by omega)]
    · cases h
/-- all moved by a time -/
def mv (l : List Rp) (b : Int) : List Rp := l.map fun p => (p.1 + b, p.2)
theorem mv_len (l : List Rp) (b : Int) : (mv l b).length = l.length := by simp [mv]
theorem mv_tm (l : List Rp) (b : Int) (i : Nat) (h : i < l.length) : tm (mv l b) i = tm l i + b := by
  simp [tm, mv, List.getD_eq_getElem?_getD, h]
theorem mv_vl (l : List Rp) (b : Int) (i : Nat) : vl (mv l b) i = vl l i := by
  rcases Nat.lt_or_ge i l.length with h | h <;> simp [vl, mv, List.getD_eq_getElem?_getD, h]
theorem mv_lb (l : List Rp) (b t : Int) : lb (mv l b) (t + b) = lb l t := by
  induction l with
  | nil => rfl
  | cons p l ih =>
    have e : mv (p :: l) b = (p.1 + b, p.2) :: mv l b := rfl
    rw [e]
    unfold lb
    rw [ih]
    by_cases h : p.1 < t
    · rw [if_pos h, if_pos (show p.1 + b < t + b by omega)]
    · rw [if_neg h, if_neg (show ¬ p.1 + b < t + b by omega)]
theorem mv_val (l : List Rp) (b rule reach t : Int) : val (mv l b) rule reach (t + b) = val l rule reach t := by
  have hle := lb_le l t
  have e1 : bck (mv l b) (t + b) = bck l t := by
    unfold bck
    rw [mv_lb]
    split
    · rw [mv_tm _ _ _ (by omega)]; omega
    · rfl
  have e2 : ahd (mv l b) (t + b) = ahd l t := by
    unfold ahd
    rw [mv_lb, mv_len]
    split
    · rename_i h; rw [mv_tm _ _ _ h]; omega
    · rfl
  have e3 : bv (mv l b) (t + b) = bv l t := by
    unfold bv
    rw [mv_lb]
    split
    · rw [mv_vl]
    · rfl
  have e4 : av (mv l b) (t + b) = av l t := by
    unfold av
    rw [mv_lb, mv_len]
    split
    · rw [mv_vl]
    · rfl
  unfold val
  rw [e1, e2, e3, e4, mv_lb, mv_len, mv_vl]
  by_cases h : lb l t < l.length ∧ tm l (lb l t) = t
  · rw [if_pos h, if_pos ⟨h.1, by rw [mv_tm _ _ _ h.1]; omega⟩]
  · rw [if_neg h, if_neg (fun k => h ⟨k.1, by have := k.2; rw [mv_tm _ _ _ k.1] at this; omega⟩)]
/-- the line between two readings: in range, one direction, at most half a sample away -/
theorem hup_rest {a n : Int} (hn : 0 < n) : 2 * (a - hup a n * n) < n ∧ -n ≤ 2 * (a - hup a n * n) := by
  unfold hup
  have h1 := Int.emod_add_mul_ediv (2 * a + n) (2 * n)
  have h2 := Int.emod_nonneg (2 * a + n) (b := 2 * n) (by omega)
  have h3 := Int.emod_lt_of_pos (2 * a + n) (b := 2 * n) (by omega)
  generalize (2 * a + n) / (2 * n) = q at *
  have e : 2 * n * q = 2 * (q * n) := by grind
  rw [e] at h1
  omega
theorem hup_mono {a b n : Int} (hn : 0 < n) (h : a ≤ b) : hup a n ≤ hup b n := Int.ediv_le_ediv (by omega) (by omega)
theorem hup_mul (q : Int) {n : Int} (hn : 0 < n) : hup (q * n) n = q := by
  have h := hup_rest (a := q * n) hn
  generalize hup (q * n) n = u at *
  have e : q * n - u * n = (q - u) * n := by grind
  rw [e] at h
  rcases Int.lt_trichotomy (q - u) 0 with g | g | g
  · have := Int.mul_le_mul_of_nonneg_right (show q - u ≤ -1 by omega) (show 0 ≤ n by omega)
    omega
  · omega
  · have := Int.mul_le_mul_of_nonneg_right (show 1 ≤ q - u by omega) (show 0 ≤ n by omega)
    omega
/-- the numerator on the line -/
def nu (p q n k : Int) : Int := p * (n - k) + q * k
theorem nu_eq (p q n k : Int) : nu p q n k = p * n + (q - p) * k := by unfold nu; grind
theorem nu_up {p q n k : Int} (h : p ≤ q) (k0 : 0 ≤ k) (kn : k + 1 ≤ n) : p * n ≤ nu p q n k ∧ nu p q n k ≤ nu p q n (k + 1) ∧ nu p q n (k + 1) ≤ q * n := by
  rw [nu_eq, nu_eq]
  have h1 := Int.mul_nonneg (show 0 ≤ q - p by omega) k0
  have h2 := Int.mul_le_mul_of_nonneg_left kn (show 0 ≤ q - p by omega)
  have e : (q - p) * (k + 1) = (q - p) * k + (q - p) := by grind
  have e2 : (q - p) * n = q * n - p * n := by grind
  omega
theorem nu_dn {p q n k : Int} (h : q ≤ p) (k0 : 0 ≤ k) (kn : k + 1 ≤ n) : q * n ≤ nu p q n (k + 1) ∧ nu p q n (k + 1) ≤ nu p q n k ∧ nu p q n k ≤ p * n := by
  rw [nu_eq, nu_eq]
  have h1 := Int.mul_nonneg (show 0 ≤ p - q by omega) k0
  have h2 := Int.mul_le_mul_of_nonneg_left kn (show 0 ≤ p - q by omega)
  have e : (p - q) * (k + 1) = (p - q) * k + (p - q) := by grind
  have e2 : (p - q) * n = p * n - q * n := by grind
  have e3 : (q - p) * k = -((p - q) * k) := by grind
  have e4 : (q - p) * (k + 1) = -((p - q) * (k + 1)) := by grind
  omega
theorem line_at {p q n k : Int} (hn : 1 ≤ n) (k0 : 0 ≤ k) (kn : k ≤ n) : val [(100, p), (100 + n, q)] 3 n (100 + k) = (hup (nu p q n k) n, true) := by
  have hz : hup (nu p q n 0) n = p := by rw [nu_eq, Int.mul_zero, Int.add_zero, hup_mul _ (by omega)]
  have hne : hup (nu p q n n) n = q := by rw [nu_eq, show p * n + (q - p) * n = q * n by grind, hup_mul _ (by omega)]
  rcases Int.lt_or_le 0 k with h | h
  · rcases Int.lt_or_le k n with h2 | h2
    · have e : lb [(100, p), (100 + n, q)] (100 + k) = 1 := lb_eq _ _ 1 (fun j hj => by obtain rfl : j = 0 := by omega
                                                                                        simp [tm]; omega) (by simp) (fun _ => by simp [tm]; omega)
      have e1 : bck [(100, p), (100 + n, q)] (100 + k) = k := by unfold bck; rw [e, if_pos (by omega)]; simp [tm]; omega
      have e2 : ahd [(100, p), (100 + n, q)] (100 + k) = n - k := by unfold ahd; rw [e, if_pos (by simp)]; simp [tm]; omega
      have e3 : bv [(100, p), (100 + n, q)] (100 + k) = p := by unfold bv; rw [e, if_pos (by omega)]; simp [vl]
      have e4 : av [(100, p), (100 + n, q)] (100 + k) = q := by unfold av; rw [e, if_pos (by simp)]; simp [vl]
      unfold val
      rw [e1, e2, e3, e4, e, if_neg (fun h => by have := h.2; simp [tm] at this; omega), if_neg (by decide), if_neg (by decide), if_pos rfl, if_pos ⟨by omega, by omega⟩, show k + (n - k) = n by omega]
      rfl
    · obtain rfl : k = n := by omega
      have e : lb [(100, p), (100 + k, q)] (100 + k) = 1 := lb_eq _ _ 1 (fun j hj => by obtain rfl : j = 0 := by omega
                                                                                        simp [tm]; omega) (by simp) (fun _ => by simp [tm])
      unfold val
      rw [e, if_pos ⟨by simp, by simp [tm]⟩, hne]
      simp [vl]
  · obtain rfl : k = 0 := by omega
    have e : lb [(100, p), (100 + n, q)] (100 + 0) = 0 := lb_eq _ _ 0 (fun j hj => by omega) (by simp) (fun _ => by simp [tm])
    unfold val
    rw [e, if_pos ⟨by simp, by simp [tm]⟩, hz]
    simp [vl]
end Go.Proofs.YtpbnabibnkohdaaGreatDoor.Rm
namespace Go.Proofs.YtpbnabibnkohdaaGreatDoor.Rg
open Go.ChangeShapes Go.WideShapes Go.RowKit Wo Sr Wi Rm
set_option linter.unusedVariables false
/-- readings, flat -/
def rs (l : List Rp) : List Value := l.flatMap fun p => [.int .i64 p.1, .int .i64 p.2]
theorem rs_cons (p : Rp) (l : List Rp) : rs (p :: l) = .int .i64 p.1 :: .int .i64 p.2 :: rs l := rfl
theorem rs_len (l : List Rp) : (rs l).length = l.length * 2 := by
  induction l with
  | nil => rfl
  | cons p l ih => rw [rs_cons, List.length_cons, List.length_cons, ih, List.length_cons]; omega
theorem rs_app (a b : List Rp) : rs (a ++ b) = rs a ++ rs b := by simp [rs]
theorem rs_at (l : List Rp) (i : Nat) (h : i < l.length) : (rs l)[i * 2]? = some (.int .i64 (tm l i)) ∧ (rs l)[i * 2 + 1]? = some (.int .i64 (vl l i)) := by
  induction l generalizing i with
  | nil => simp at h
  | cons p l ih =>
    rcases i with _ | i
    · exact ⟨rfl, rfl⟩
    · have := ih i (by simpa using h)
      rw [rs_cons, show (i + 1) * 2 = i * 2 + 1 + 1 by omega]
      simpa [tm, vl] using this
/-- a slice that reads as these readings -/
def Zr (w : World) (A : Option Addr) (n : Nat) (l : List Rp) : Prop := l.length = n ∧ (0 < n → ∃ g : Nat, A = some ⟨g, 0, none⟩ ∧ g < w.heap.size ∧ ∀ j, j < n → w.cell? ⟨g, j * 2, none⟩ = some (.int .i64 (tm l j)) ∧ w.cell? ⟨g, j * 2 + 1, none⟩ = some (.int .i64 (vl l j)))
theorem Zr.bel {w w' : World} {A : Option Addr} {n : Nat} {l : List Rp} (h : Zr w A n l) (hb : Bel w w') : Zr w' A n l :=
  ⟨h.1, fun hn => by
    obtain ⟨ad, e, hx, hc⟩ := h.2 hn
    exact ⟨ad, e, by have := hb.size; omega, fun j hj => ⟨hb.kp (hc j hj).1, hb.kp (hc j hj).2⟩⟩⟩
theorem Zr.at {w : World} {g n : Nat} {l : List Rp} (h : Zr w (some ⟨g, 0, none⟩) n l) (j : Nat) (hj : j < n) : w.cell? ⟨g, j * 2, none⟩ = some (.int .i64 (tm l j)) ∧ w.cell? ⟨g, j * 2 + 1, none⟩ = some (.int .i64 (vl l j)) := by
  obtain ⟨ad, e, _, hc⟩ := h.2 (by omega)
  cases e
  exact hc j hj
theorem Zr.ch {w w' : World} {A : Option Addr} {n g : Nat} {l : List Rp} (h : Zr w A n l) (hc : Ch g w w') (hn : ∀ k, A = some ⟨k, 0, none⟩ → k ≠ g) : Zr w' A n l :=
  ⟨h.1, fun h0 => by
    obtain ⟨ad, e, hx, hcc⟩ := h.2 h0
    exact ⟨ad, e, by have := hc.sz; omega, fun j hj => ⟨hc.kp (hcc j hj).1 (hn ad e), hc.kp (hcc j hj).2 (hn ad e)⟩⟩⟩
theorem zr_bk {w : World} {h : Nat} {t : TypeId} {l : List Rp} (hb : Bk w h t (rs l).toArray) (n : Nat) (hn : l.length = n) : Zr w (some ⟨h, 0, none⟩) n l := by
  subst hn
  refine ⟨rfl, fun _ => ⟨_, rfl, hb.lt, fun j hj => ?_⟩⟩
  have e := rs_at l j hj
  rw [hb.cell, hb.cell]
  simpa using e
theorem rrow_form {w : World} {base n : Nat} {v : Value} {l : List Rp} (h : w.ownsRow base 100 2 v n (rs l)) (hn : 0 < n) : ∃ g c, v = .slice (some ⟨g, 0, none⟩) n c ∧ n ≤ c ∧ base ≤ g := by
  rcases h.2 with ⟨_, h0⟩ | ⟨g, cap, cur, hv, hb, hg, h1, _⟩
  · omega
  · exact ⟨g, cap, hv, h1, hb⟩
theorem own_zr {w : World} {base k : Nat} {v : Value} {l : List Rp} (hr : w.ownsRow base 100 2 v k (rs l)) (hk : l.length = k) : ∃ A c, v = .slice A k c ∧ Zr w A k l := by
  rcases hr.2 with ⟨rfl, rfl⟩ | ⟨g, cap, cur, rfl, hb, hg, rest⟩
  · exact ⟨none, 0, rfl, hk, fun h => by omega⟩
  · refine ⟨_, cap, rfl, hk, fun hn => ⟨_, rfl, (hr.lt g rfl).2, fun j hj => ?_⟩⟩
    have e := rs_at l j (by omega)
    have h1 := hr.cells (g := g) rfl _ _ e.1
    have h2 := hr.cells (g := g) rfl _ _ e.2
    rw [add_row] at h1 h2
    exact ⟨h1, h2⟩
theorem info_reading : (Tryz.prog.info? 100).map (fun i => (i.zero, i.size, i.bytes)) = some (some (.agg #[.int .i64 0, .int .i64 0]), 2, 16) := by kernel_rfl
theorem wp_appr (w : World) {o : Oper} {a : Act} {K : Act → World → Prop} {Q : Exit → Act → World → Prop} (s x : Operand)
    (ho : o.op = .call { callee := .builtin .append, args := #[s, x], argTypes := #[61, 61] })
    (base : Nat) (v : Value) (n : Nat) (l : List Rp) (hs : a.eval s = v) (hown : w.ownsRow base 100 2 v n (rs l)) (g c : Nat) (p : Rp) (hx : a.eval x = .slice (some ⟨g, 0, none⟩) 1 c)
    (hM : Bk w g 100 #[.int .i64 p.1, .int .i64 p.2]) (hn : n ≤ 100000) (hbase : base ≤ w.heap.size)
    (h : ∀ v' w', w'.ownsRow base 100 2 v' (n + 1) (rs (l ++ [p])) → w.grownBy w' v.ownBlock → (v'.ownBlock = v.ownBlock ∨ v'.ownBlock = some w.heap.size) → K (a.put o.dst v') w') : o.wp Tryz.prog a w K Q := by
  obtain ⟨i0, hi0, hz0, hz1, hz2⟩ := info_parts info_reading
  obtain ⟨v', w', hr, h2, h3, _, h5⟩ := run_append_own_at (P := Tryz.prog) w base 61 o.type 100 i0 (.agg #[.int .i64 0, .int .i64 0]) 2 16 Tryz.underlying61 hi0 hz0 hz1 hz2 (by rfl) (by omega) v n (rs l) hown ⟨g, 0, none⟩ 1 c (rs [p]) (by rfl) (by
    intro j u hu
    rw [add_row, Bk.cell (t := 100) hM j]
    have e : rs [p] = [.int .i64 p.1, .int .i64 p.2] := rfl
    rw [e] at hu
    simpa using hu) (by intro u hu; simp [rs] at hu; rcases hu with rfl | rfl <;> rfl) (by unfold maxLen; omega) (by omega) hbase
  unfold Oper.wp execOp
  simp only [ho, resolve, invoke, builtin, Sem.run_bind, Sem.run_pure, Result.andThen_ok, List.map_toArray, List.map_cons, List.map_nil, hs, hx, hr]
  exact h v' w' (by rw [rs_app]; exact h2) h3 h5
/-- at a step of a region that draws its order -/
theorem step_appr (w : World) {ops : Array Oper} {o : Oper} {a : Act} {K : Act → World → Prop} {Q : Exit → Act → World → Prop} {E : Prop} (hgd : o.guard = none) (s x : Operand)
    (ho : o.op = .call { callee := .builtin .append, args := #[s, x], argTypes := #[61, 61] })
    (base : Nat) (v : Value) (n : Nat) (l : List Rp) (hs : a.eval s = v) (hown : w.ownsRow base 100 2 v n (rs l)) (g c : Nat) (p : Rp) (hx : a.eval x = .slice (some ⟨g, 0, none⟩) 1 c)
    (hM : Bk w g 100 #[.int .i64 p.1, .int .i64 p.2]) (hn : n ≤ 100000) (hbase : base ≤ w.heap.size)
    (h : ∀ v' w', w'.ownsRow base 100 2 v' (n + 1) (rs (l ++ [p])) → w.grownBy w' v.ownBlock → (v'.ownBlock = v.ownBlock ∨ v'.ownBlock = some w.heap.size) → K (a.put o.dst v') w') :
    if Region.wanted o (yielded ops a.tmps) = true then Oper.wp Tryz.prog o a w K Q else E := by
  have hw : Region.wanted o (yielded ops a.tmps) = true := by simp [Region.wanted, hgd]
  rw [if_pos hw]
  exact wp_appr w s x ho base v n l hs hown g c p hx hM hn hbase h
/-- at the list of a plain region -/
theorem list_appr (w : World) {ops : Array Oper} {rest : List Oper} {o : Oper} {a : Act} {Q : Exit → Act → World → Prop} (hgd : o.guard = none) (s x : Operand)
    (ho : o.op = .call { callee := .builtin .append, args := #[s, x], argTypes := #[61, 61] })
    (base : Nat) (v : Value) (n : Nat) (l : List Rp) (hs : a.eval s = v) (hown : w.ownsRow base 100 2 v n (rs l)) (g c : Nat) (p : Rp) (hx : a.eval x = .slice (some ⟨g, 0, none⟩) 1 c)
    (hM : Bk w g 100 #[.int .i64 p.1, .int .i64 p.2]) (hn : n ≤ 100000) (hbase : base ≤ w.heap.size)
    (h : ∀ v' w', w'.ownsRow base 100 2 v' (n + 1) (rs (l ++ [p])) → w.grownBy w' v.ownBlock → (v'.ownBlock = v.ownBlock ∨ v'.ownBlock = some w.heap.size) → wpList Tryz.prog ops Q rest (a.put o.dst v') w') : wpList Tryz.prog ops Q (o :: rest) a w :=
  wpList_plain hgd fun _ hK => wp_appr w s x ho base v n l hs hown g c p hx hM hn hbase fun v' w' h2 h3 h5 => hK _ _ (h v' w' h2 h3 h5)
/-- a valid reading -/
def Vr (t v : Int) : Prop := 0 ≤ t ∧ t ≤ 1099511627776 ∧ -1000 ≤ v ∧ v ≤ 1000
theorem reading_ok (t v : Int) (h : Vr t v) (w : World) : Calls Tryz.prog 116 #[.agg #[.int .i64 t, .int .i64 v]] w fun e w' => e = .returned (.bool true) ∧ Bel w w' := by
  obtain ⟨h1, h2, h3, h4⟩ := h
  go_enter Tryz.func116, Tryz.ntmps116
  go_wp2_with (go_at_call 69; refine (sample_ok v h3 h4 _).mono ?_; rintro e w' ⟨rfl, rfl⟩)
  go_ret
  exact ⟨rfl, by first | exact Bel.rf | exact Bel.rf.al _ | exact (Bel.rf.al _).drwN _⟩
def Vrs (l : List Rp) : Prop := ∀ i, i < l.length → Vr (tm l i) (vl l i)
set_option maxHeartbeats 4000000 in
theorem readings_ok (A : Option Addr) (c n : Nat) (l : List Rp) (hn : n ≤ 2000) (hs : Vrs l) (w : World) (h : Zr w A n l) :
    Calls Tryz.prog 87 #[.slice A n c] w fun e w' => e = .returned (.int .i64 0) ∧ Bel w w' := by
  have H1 := Lib.hid h
  have HS := Lib.hid hs
  have ni : (n : Int) ≤ 2000 := by omega
  clear h hs
  go_enter Tryz.func87, Tryz.ntmps87
  go_wp2
  go_loopw [10] (fun s7 wr => ∃ (k : Nat) (V : World), V = wr ∧ k ≤ n ∧ s7 = .int .i64 (k : Int) ∧ Bel w wr) (fun s7 _ => n - (intOf s7).toNat)
  case atStart => exact ⟨0, _, rfl, by omega, rfl, Bel.rf⟩
  case round =>
    obtain ⟨k, wr, hwr, hk, rfl, hb⟩ := hrel
    subst hwr
    have HB := Lib.hid hb
    rcases Nat.lt_or_ge k n with hlt | hge
    · obtain ⟨ad, rfl, hab, hac⟩ := (H1.out.bel hb).2 (by omega)
      obtain ⟨c1, c2⟩ := hac k hlt
      have hx := HS.out k (by rw [H1.out.1]; exact hlt)
      obtain ⟨x, hxe⟩ : ∃ x, tm l k = x := ⟨_, rfl⟩
      obtain ⟨y, hye⟩ : ∃ x, vl l k = x := ⟨_, rfl⟩
      rw [hxe] at c1 hx
      rw [hye] at c2 hx
      have HX := Lib.hid hx
      have ki : (k : Int) < (n : Int) := by omega
      clear hb hac hab hxe hye hx
      go_wp2_with (go_at_call 116; refine (reading_ok x y HX.out _).mono ?_; rintro e w' ⟨rfl, hbr⟩)
      go_roundw
      case rel => exact ⟨k + 1, _, rfl, by omega, by go_num, by first | exact HB.out.tr hbr | exact (HB.out.drwN _).tr hbr | exact HB.out.drw.tr hbr | exact ((HB.out.al _).drwN _).tr hbr | exact (HB.out.al _).tr hbr⟩
      case measure => simp [intOf]; omega
    · obtain rfl : k = n := by omega
      clear hb
      go_wp2
      go_ret
      exact ⟨rfl, HB.out⟩
end Go.Proofs.YtpbnabibnkohdaaGreatDoor.Rg
namespace Go.Proofs.YtpbnabibnkohdaaGreatDoor.Un
set_option linter.unusedVariables false
/-- Go's quotient and rest against the rounded-down ones -/
theorem fl_parts (a b : Int) (hb : 1 ≤ b) : (a.tmod b < 0 → a.tdiv b - 1 = a / b) ∧ (0 ≤ a.tmod b → a.tdiv b = a / b) ∧ -b < a.tmod b ∧ a.tmod b < b := by
  have e := Int.mul_tdiv_add_tmod a b
  have h1 : a.tmod b < b := Int.tmod_lt_of_pos a (by omega)
  have h2 : -b < a.tmod b := by
    rcases Int.lt_or_le a 0 with h | h
    · have := Int.neg_tmod (a := -a) (b := b)
      rw [Int.neg_neg] at this
      have k := Int.tmod_lt_of_pos (-a) (b := b) (by omega)
      omega
    · have := Int.tmod_nonneg b h
      omega
  generalize a.tdiv b = t at *
  generalize a.tmod b = m at *
  subst e
  refine ⟨fun h => ?_, fun h => ?_, h2, h1⟩
  · have : b * t + m = (b + m) + b * (t - 1) := by grind
    rw [this, Int.add_mul_ediv_left _ _ (by omega), Int.ediv_eq_zero_of_lt (by omega) (by omega)]
    omega
  · rw [Int.add_comm, Int.add_mul_ediv_left _ _ (by omega), Int.ediv_eq_zero_of_lt h h1]
    omega
theorem td_bound (a b M : Int) (hb : 1 ≤ b) (h0 : -M ≤ a) (h1 : a ≤ M) : -M ≤ a.tdiv b ∧ a.tdiv b ≤ M := by
  have e := Int.mul_tdiv_add_tmod a b
  have hs := fl_parts a b hb
  have hm : (0 ≤ a → 0 ≤ a.tmod b) ∧ (a < 0 → a.tmod b ≤ 0) := by
    constructor
    · intro h; exact Int.tmod_nonneg b h
    · intro h
      have := Int.neg_tmod (a := -a) (b := b)
      rw [Int.neg_neg] at this
      have k := Int.tmod_nonneg b (show 0 ≤ -a by omega)
      omega
  generalize a.tdiv b = t at *
  generalize a.tmod b = m at *
  have hbt : (0 ≤ t → t ≤ b * t) ∧ (t ≤ 0 → b * t ≤ t) := by
    constructor
    · intro h; have := Int.mul_le_mul_of_nonneg_right hb h; omega
    · intro h; have := Int.mul_le_mul_of_nonneg_right hb (show 0 ≤ -t by omega); have e2 : b * -t = -(b * t) := by grind
      omega
  rcases Int.lt_or_le t 0 with ht | ht
  · have := hbt.2 (by omega)
    rcases Int.lt_or_le a 0 with ha | ha
    · have := hm.2 ha
      have := hs.2.2
      constructor
      · rcases Int.lt_or_le t (-M) with hx | hx
        · have hq : b * t ≤ b * (-M - 1) := Int.mul_le_mul_of_nonneg_left (by omega) (by omega)
          have hq2 : b * (-M - 1) = -(b * M) - b := by grind
          have hq3 : M ≤ b * M := by have := Int.mul_le_mul_of_nonneg_right hb (show 0 ≤ M by omega); omega
          omega
        · exact hx
      · omega
    · have := hm.1 ha
      have := hs.2.2
      have hq : b * t ≤ b * (-1) := Int.mul_le_mul_of_nonneg_left (by omega) (by omega)
      omega
  · have := hbt.1 ht
    rcases Int.lt_or_le a 0 with ha | ha
    · have := hm.2 ha
      have := hs.2.2
      rcases Int.lt_or_le 0 t with hx | hx
      · have hq : b * 1 ≤ b * t := Int.mul_le_mul_of_nonneg_left (by omega) (by omega)
        omega
      · omega
    · have := hm.1 ha
      omega
/-- a quotient rounded to the nearest integer, halves up -/
def hup (a b : Int) : Int := (2 * a + b) / (2 * b)
theorem hup_in (a b : Int) (hb : 1 ≤ b) : -b ≤ 2 * (a - hup a b * b) ∧ 2 * (a - hup a b * b) < b := by
  unfold hup
  have e := Int.emod_add_mul_ediv (2 * a + b) (2 * b)
  have h0 := Int.emod_nonneg (2 * a + b) (b := 2 * b) (by omega)
  have h1 := Int.emod_lt_of_pos (2 * a + b) (b := 2 * b) (by omega)
  generalize (2 * a + b) / (2 * b) = q at *
  have e2 : 2 * b * q = 2 * (q * b) := by grind
  omega
theorem hup_of (a b q : Int) (hb : 1 ≤ b) (h0 : -b ≤ 2 * (a - q * b)) (h1 : 2 * (a - q * b) < b) : hup a b = q := by
  unfold hup
  have e : 2 * a + b = (2 * (a - q * b) + b) + 2 * b * q := by grind
  rw [e, Int.add_mul_ediv_left _ _ (by omega), Int.ediv_eq_zero_of_lt (by omega) (by omega)]
  omega
theorem hup_scale (a b k : Int) (hb : 1 ≤ b) (hk : 1 ≤ k) : hup (a * k) (b * k) = hup a b := by
  unfold hup
  have e1 : 2 * (a * k) + b * k = (2 * a + b) * k := by grind
  have e2 : 2 * (b * k) = 2 * b * k := by grind
  rw [e1, e2, Int.mul_ediv_mul_of_pos_left _ _ (by omega)]
theorem hup_mono (a c b : Int) (hb : 1 ≤ b) (h : a ≤ c) : hup a b ≤ hup c b := by
  unfold hup
  exact Int.ediv_le_ediv (by omega) (by omega)
theorem hup_ge (a b s : Int) (hb : 1 ≤ b) : (s ≤ hup a b) ↔ (2 * s - 1) * b ≤ 2 * a := by
  unfold hup
  rw [Int.le_ediv_iff_mul_le (by omega)]
  have : s * (2 * b) = (2 * s - 1) * b + b := by grind
  omega
end Go.Proofs.YtpbnabibnkohdaaGreatDoor.Un
namespace Go.Proofs.YtpbnabibnkohdaaGreatDoor.Un
open Go.ChangeShapes Go.WideShapes Go.RowKit Wo
set_option linter.unusedVariables false
theorem floor_any (a b : Int) (h1 : 1 ≤ b) (h2 : b ≤ 4611686018427387904) (h3 : -4611686018427387904 ≤ a) (h4 : a ≤ 4611686018427387904) (w : World) :
    Calls Tryz.prog 118 #[.int .i64 a, .int .i64 b] w fun e w' => e = .returned (.int .i64 (a / b)) ∧ w = w' := by
  have m := fl_parts a b h1
  have t := td_bound a b 4611686018427387904 h1 h3 h4
  have t0 := t.1
  have t1 := t.2
  have hne : b ≠ 0 := by omega
  have e1 := m.2.2.1
  have e2 := m.2.2.2
  have tw : IntKind.i64.wrap (a.tdiv b) = a.tdiv b := IntWalk.i64_in _ (by omega)
  have tw2 : IntKind.i64.wrap (a.tdiv b - 1) = a.tdiv b - 1 := IntWalk.i64_in _ (by omega)
  rcases Int.lt_or_le (a.tmod b) 0 with h | h
  · have HE := Lib.hid (m.1 h)
    clear m t
    go_enter Tryz.func118, Tryz.ntmps118
    go_wp2
    go_ret
    exact ⟨ret_int HE.out, rfl⟩
  · have HE := Lib.hid (m.2.1 h)
    clear m t
    go_enter Tryz.func118, Tryz.ntmps118
    go_wp2
    go_ret
    exact ⟨ret_int HE.out, rfl⟩
theorem half_any (a b : Int) (h1 : 1 ≤ b) (h2 : b ≤ 1152921504606846976) (h3 : -1152921504606846976 ≤ a) (h4 : a ≤ 1152921504606846976) (w : World) :
    Calls Tryz.prog 91 #[.int .i64 a, .int .i64 b] w fun e w' => e = .returned (.int .i64 (hup a b)) ∧ w = w' := by
  have HE : Hid (∀ w, Calls Tryz.prog 118 #[.int .i64 (2 * a + b), .int .i64 (2 * b)] w fun e w' => e = .returned (.int .i64 (hup a b)) ∧ w = w') :=
    fun w => floor_any (2 * a + b) (2 * b) (by omega) (by omega) (by omega) (by omega) w
  go_enter Tryz.func91, Tryz.ntmps91
  go_wp2_with (go_at_call 118; refine (HE.out _).mono ?_; rintro e w' ⟨rfl, rfl⟩)
  go_ret
  exact ⟨rfl, rfl⟩
def smp (n : Int) : Bool := decide (-1000 ≤ n ∧ n ≤ 1000)
theorem sample_any (n : Int) (w : World) : Calls Tryz.prog 69 #[.int .i64 n] w fun e w' => e = .returned (.bool (smp n)) ∧ w = w' := by
  rcases Int.lt_or_le n (-1000) with h | h
  · have HE : Hid (smp n = false) := decide_eq_false (by omega)
    have b1 : decide (-1000 ≤ n) = false := decide_eq_false (by omega)
    go_enter Tryz.func69, Tryz.ntmps69
    go_wp2
    go_ret
    exact ⟨ret_bool HE.out.symm, rfl⟩
  · rcases Int.lt_or_le 1000 n with k | k
    · have HE : Hid (smp n = false) := decide_eq_false (by omega)
      have b1 : decide (-1000 ≤ n) = true := decide_eq_true (by omega)
      have b2 : decide (n ≤ 1000) = false := decide_eq_false (by omega)
      go_enter Tryz.func69, Tryz.ntmps69
      go_wp2
      go_ret
      exact ⟨ret_bool HE.out.symm, rfl⟩
    · have HE : Hid (smp n = true) := decide_eq_true (by omega)
      have b1 : decide (-1000 ≤ n) = true := decide_eq_true (by omega)
      have b2 : decide (n ≤ 1000) = true := decide_eq_true (by omega)
      go_enter Tryz.func69, Tryz.ntmps69
      go_wp2
      go_ret
      exact ⟨ret_bool HE.out.symm, rfl⟩
theorem dec_yes (x p : Int) (h1 : -1000000000 ≤ x) (h2 : x ≤ 1000000000) (h3 : 0 ≤ p) (h4 : p ≤ 6) (w : World) :
    Calls Tryz.prog 115 #[.agg #[.int .i64 x, .int .i64 p]] w fun e w' => e = .returned (.bool true) ∧ Bel w w' := by
  go_enter Tryz.func115, Tryz.ntmps115
  go_wp2
  go_ret
  exact ⟨rfl, Bel.rf.al _⟩
/-- a name of a unit -/
def Low (s : ByteArray) : Prop := 1 ≤ s.size ∧ s.size ≤ 12 ∧ ∀ (i : Nat) (h : i < s.size), 97 ≤ s[i].toNat ∧ s[i].toNat ≤ 122
set_option maxHeartbeats 2000000 in
set_option maxRecDepth 100000 in
theorem unit_yes (s : ByteArray) (m a d : Int) (hs : Low s) (m1 : 1 ≤ m) (m2 : m ≤ 1000000) (a1 : -1000000000 ≤ a) (a2 : a ≤ 1000000000) (d1 : 1 ≤ d) (d2 : d ≤ 1000000) (w : World) :
    Calls Tryz.prog 80 #[.agg #[.string s, .int .i64 m, .int .i64 a, .int .i64 d]] w fun e w' => e = .returned (.bool true) ∧ Bel w w' := by
  have s1 := hs.1
  have s2 := hs.2.1
  have HS := Lib.hid hs.2.2
  clear hs
  have si : (s.size : Int) ≤ 12 := by omega
  have si1 : (1 : Int) ≤ (s.size : Int) := by omega
  go_enter Tryz.func80, Tryz.ntmps80
  go_wp2
  have HB : Hid (Bk (w.alloc (.cells #[.string s, .int .i64 m, .int .i64 a, .int .i64 d] 65)) w.heap.size 65 #[.string s, .int .i64 m, .int .i64 a, .int .i64 d]) := Bk.nw _ _ _
  go_loopw [17] (fun t wr => ∃ k : Nat, k ≤ s.size ∧ t = .int .i64 (k : Int) ∧ Bel w wr ∧ Bk wr w.heap.size 65 #[.string s, .int .i64 m, .int .i64 a, .int .i64 d]) (fun t _ => s.size - (intOf t).toNat)
  case atStart => exact ⟨0, by omega, rfl, Bel.rf.al _, HB.out⟩
  case round =>
    obtain ⟨k, hk, rfl, hb, hbk⟩ := hrel
    rename_i wr
    have k0 : wr.cell? ⟨w.heap.size, 0, none⟩ = some (.string s) := hbk.cell 0
    have k1 : wr.cell? ⟨w.heap.size, 1, none⟩ = some (.int .i64 m) := hbk.cell 1
    have k2 : wr.cell? ⟨w.heap.size, 2, none⟩ = some (.int .i64 a) := hbk.cell 2
    have k3 : wr.cell? ⟨w.heap.size, 3, none⟩ = some (.int .i64 d) := hbk.cell 3
    have HBK := Lib.hid hbk
    have HBE := Lib.hid hb
    clear hbk hb HB
    rcases Nat.lt_or_ge k s.size with hlt | hge
    · have h1 := (HS.out k hlt).1
      have h2 := (HS.out k hlt).2
      have hi : (k : Int) < (s.size : Int) := by omega
      go_wp2
      go_roundw
      case rel => exact ⟨k + 1, by omega, by go_num, HBE.out, HBK.out⟩
      case measure => simp [intOf]; omega
    · obtain rfl : k = s.size := by omega
      go_wp2
      go_ret
      exact ⟨rfl, HBE.out⟩
/-- what Convert returns for a valid decimal and a valid unit -/
def cvt (E p : Int) : Value := if smp (hup E p) = true then .tuple #[.int .i64 (hup E p), .int .i64 0] else .tuple #[.int .i64 0, .int .i64 12]
theorem cvt_if {E p q : Int} (hp : 1 ≤ p) (h0 : -p ≤ 2 * (E - q * p)) (h1 : 2 * (E - q * p) < p) : cvt E p = if smp q = true then .tuple #[.int .i64 q, .int .i64 0] else .tuple #[.int .i64 0, .int .i64 12] := by
  unfold cvt
  rw [hup_of E p q hp h0 h1]
theorem cvt_of {E p q : Int} (hp : 1 ≤ p) (h0 : -p ≤ 2 * (E - q * p)) (h1 : 2 * (E - q * p) < p) (h2 : -1000 ≤ q) (h3 : q ≤ 1000) : cvt E p = .tuple #[.int .i64 q, .int .i64 0] := by
  rw [cvt_if hp h0 h1, if_pos (show smp q = true from decide_eq_true ⟨h2, h3⟩)]
theorem mul_in {x y X Y : Int} (h1 : -X ≤ x) (h2 : x ≤ X) (h3 : 0 ≤ y) (h4 : y ≤ Y) (hX : 0 ≤ X) : -(X * Y) ≤ x * y ∧ x * y ≤ X * Y := by
  have a := Int.mul_le_mul_of_nonneg_right h2 h3
  have b := Int.mul_le_mul_of_nonneg_right h1 h3
  have c := Int.mul_le_mul_of_nonneg_left h4 hX
  have d : -X * y = -(X * y) := by grind
  omega
set_option maxHeartbeats 2000000 in
theorem convert_any (x : Int) (p : Nat) (P : Int) (s : ByteArray) (m a d : Int) (x1 : -1000000000 ≤ x) (x2 : x ≤ 1000000000) (hp : p ≤ 6) (p1 : 1 ≤ P) (p2 : P ≤ 1000000) (hs : Low s) (m1 : 1 ≤ m) (m2 : m ≤ 1000000) (a1 : -1000000000 ≤ a) (a2 : a ≤ 1000000000) (d1 : 1 ≤ d) (d2 : d ≤ 1000000) (w : World)
    (hc : w.cell? ⟨0, p, none⟩ = some (.int .i64 P)) :
    Calls Tryz.prog 86 #[.agg #[.int .i64 x, .int .i64 (p : Int)], .agg #[.string s, .int .i64 m, .int .i64 a, .int .i64 d]] w fun e w' => e = .returned (cvt (x * m + a * P) (d * P)) ∧ Bel w w' := by
  have q1 := mul_in (Y := 1000000) x1 x2 (by omega) m2 (by omega)
  have q2 := mul_in (Y := 1000000) a1 a2 (by omega) p2 (by omega)
  have q3 := mul_in (x := d) (X := 1000000) (Y := 1000000) (by omega) d2 (by omega) p2 (by omega)
  have q4 : 1 ≤ d * P := by have := Int.mul_le_mul_of_nonneg_right d1 (show 0 ≤ P by omega); omega
  have w1 : IntKind.i64.wrap (x * m) = x * m := IntWalk.i64_in _ (by omega)
  have w2 : IntKind.i64.wrap (a * P) = a * P := IntWalk.i64_in _ (by omega)
  have w3 : IntKind.i64.wrap (d * P) = d * P := IntWalk.i64_in _ (by omega)
  have w4 : IntKind.i64.wrap (x * m + a * P) = x * m + a * P := IntWalk.i64_in _ (by omega)
  have pi : (p : Int) ≤ 6 := by omega
  have pi0 : (0 : Int) ≤ (p : Int) := by omega
  have HD : Hid (∀ w, Calls Tryz.prog 115 #[.agg #[.int .i64 x, .int .i64 (p : Int)]] w fun e w' => e = .returned (.bool true) ∧ Bel w w') := fun w => dec_yes x p x1 x2 pi0 pi w
  have HU : Hid (∀ w, Calls Tryz.prog 80 #[.agg #[.string s, .int .i64 m, .int .i64 a, .int .i64 d]] w fun e w' => e = .returned (.bool true) ∧ Bel w w') := fun w => unit_yes s m a d hs m1 m2 a1 a2 d1 d2 w
  have HH : Hid (∀ w, Calls Tryz.prog 91 #[.int .i64 (x * m + a * P), .int .i64 (d * P)] w fun e w' => e = .returned (.int .i64 (hup (x * m + a * P) (d * P))) ∧ w = w') := fun w => half_any _ _ q4 (by omega) (by omega) (by omega) w
  have HC := Lib.hid hc
  clear hc hs
  go_enter Tryz.func86, Tryz.ntmps86
  go_wp2_with fail
  go_at_call 115
  refine (HD.out _).mono ?_
  rintro e w5 ⟨rfl, h5⟩
  have B2 : Bk w5 (w.heap.size + 1) 65 #[.string s, .int .i64 m, .int .i64 a, .int .i64 d] := (Bk.nq (w.alloc _) _ _ (by simp)).bel h5
  have HX : Hid (Bel w w5) := ((Bel.rf.al _).al _).tr h5
  have HB1 : Hid (Bk w5 w.heap.size 128 #[.int .i64 x, .int .i64 (p : Int)]) := ((Bk.nw _ _ _).al _).bel h5
  have HB2 := Lib.hid B2
  have c0 : w5.cell? ⟨w.heap.size + 1, 0, none⟩ = some (.string s) := B2.cell 0
  have c1 : w5.cell? ⟨w.heap.size + 1, 1, none⟩ = some (.int .i64 m) := B2.cell 1
  have c2 : w5.cell? ⟨w.heap.size + 1, 2, none⟩ = some (.int .i64 a) := B2.cell 2
  have c3 : w5.cell? ⟨w.heap.size + 1, 3, none⟩ = some (.int .i64 d) := B2.cell 3
  clear h5 B2
  go_wp2_with fail
  go_at_call 80
  refine (HU.out _).mono ?_
  rintro e w6 ⟨rfl, h6⟩
  have B1 := HB1.out.bel h6
  have B2 := HB2.out.bel h6
  have k0 : w6.cell? ⟨w.heap.size, 0, none⟩ = some (.int .i64 x) := B1.cell 0
  have k1 : w6.cell? ⟨w.heap.size, 1, none⟩ = some (.int .i64 (p : Int)) := B1.cell 1
  have k2 : w6.cell? ⟨w.heap.size + 1, 1, none⟩ = some (.int .i64 m) := B2.cell 1
  have k3 : w6.cell? ⟨w.heap.size + 1, 2, none⟩ = some (.int .i64 a) := B2.cell 2
  have k4 : w6.cell? ⟨w.heap.size + 1, 3, none⟩ = some (.int .i64 d) := B2.cell 3
  have hx6 := HX.out.tr h6
  have k5 : w6.cell? ⟨0, p, none⟩ = some (.int .i64 P) := hx6.kp HC.out
  have HX6 := Lib.hid hx6
  clear h6 B1 B2 hx6 c0 c1 c2 c3
  go_wp2_with fail
  go_at_call 91
  refine (HH.out _).mono ?_
  rintro e w7 ⟨rfl, rfl⟩
  clear w1 w2 w3 w4
  generalize hG : hup (x * m + a * P) (d * P) = q
  have HG := Lib.hid hG
  clear hG
  have HV : Hid (cvt (x * m + a * P) (d * P) = if smp q = true then .tuple #[.int .i64 q, .int .i64 0] else .tuple #[.int .i64 0, .int .i64 12]) := by
    show cvt (x * m + a * P) (d * P) = _
    unfold cvt
    rw [HG.out]
  rcases hS : smp q
  · rw [hS] at HV
    have HS := Lib.hid hS
    have HSC : Hid (∀ w, Calls Tryz.prog 69 #[.int .i64 q] w fun e w' => e = .returned (.bool false) ∧ w = w') := fun w => by have := sample_any q w; rwa [HS.out] at this
    clear hS
    go_wp2_with (go_at_call 69; refine (HSC.out _).mono ?_; rintro e w' ⟨rfl, rfl⟩)
    go_ret2
    exact ⟨by rw [HV.out]; rfl, HX6.out⟩
  · rw [hS] at HV
    have HS := Lib.hid hS
    have HSC : Hid (∀ w, Calls Tryz.prog 69 #[.int .i64 q] w fun e w' => e = .returned (.bool true) ∧ w = w') := fun w => by have := sample_any q w; rwa [HS.out] at this
    clear hS
    go_wp2_with (go_at_call 69; refine (HSC.out _).mono ?_; rintro e w' ⟨rfl, rfl⟩)
    go_ret2
    exact ⟨by rw [HV.out]; rfl, HX6.out⟩
end Go.Proofs.YtpbnabibnkohdaaGreatDoor.Un
namespace Go.Proofs.YtpbnabibnkohdaaGreatDoor.Rt
open Go.Lib Un Rg
open Rm (Rp tm vl)
set_option linter.unusedVariables false
theorem ib_none : ∀ (a : List UInt8) (c : UInt8), c ∉ a → indexByte a c = -1
  | [], c, _ => rfl
  | b :: l, c, h => by
    unfold indexByte
    rw [if_neg (fun e => h (by rw [beq_iff_eq.1 e]; exact List.mem_cons_self)), ib_none l c (fun e => h (List.mem_cons_of_mem _ e))]
    rfl
theorem ib_some : ∀ (a b : List UInt8) (c : UInt8), c ∉ a → indexByte (a ++ c :: b) c = (a.length : Int)
  | [], b, c, _ => by
    show indexByte (c :: b) c = _
    unfold indexByte
    rw [if_pos (beq_iff_eq.2 rfl)]; rfl
  | x :: l, b, c, h => by
    show indexByte (x :: (l ++ c :: b)) c = _
    have ih := ib_some l b c (fun e => h (List.mem_cons_of_mem _ e))
    unfold indexByte
    rw [if_neg (fun e => h (by rw [beq_iff_eq.1 e]; exact List.mem_cons_self)), ih, if_neg (fun e => by have := beq_iff_eq.1 e; omega)]
    rw [List.length_cons]; omega
/-- a text, cut behind its first line -/
def cutN (l : List UInt8) : List UInt8 × List UInt8 := if 0 ≤ indexByte l 10 then (l.take (indexByte l 10).toNat, l.drop ((indexByte l 10).toNat + 1)) else (l, [])
theorem cutN_none (a : List UInt8) (h : (10 : UInt8) ∉ a) : cutN a = (a, []) := by
  unfold cutN
  rw [ib_none a 10 h]; rfl
theorem cutN_some (a b : List UInt8) (h : (10 : UInt8) ∉ a) : cutN (a ++ 10 :: b) = (a, b) := by
  unfold cutN
  rw [ib_some a b 10 h, if_pos (by omega)]
  have e : ((a.length : Int)).toNat = a.length := by omega
  rw [e, List.take_left' rfl]
  congr 1
  rw [← List.drop_drop, List.drop_left' rfl]; rfl
theorem cutN_lt (l : List UInt8) (h : l ≠ []) : (cutN l).2.length < l.length := by
  have hp : 0 < l.length := List.length_pos_iff.2 h
  unfold cutN
  split
  · simp only [List.length_drop]; omega
  · simpa using hp
theorem cutN_le (l : List UInt8) : (cutN l).1.length ≤ l.length := by
  unfold cutN
  split
  · simp only [List.length_take]; omega
  · exact Nat.le_refl _
/-- the lines of a text -/
def lns (l : List UInt8) : List (List UInt8) := if h : l = [] then [] else (cutN l).1 :: lns (cutN l).2
termination_by l.length
decreasing_by exact cutN_lt l h
theorem lns_nil : lns [] = [] := by rw [lns]; rfl
theorem lns_ne (l : List UInt8) (h : l ≠ []) : lns l = (cutN l).1 :: lns (cutN l).2 := by rw [lns, dif_neg h]
theorem lns_line (a b : List UInt8) (h : (10 : UInt8) ∉ a) : lns (a ++ 10 :: b) = a :: lns b := by
  rw [lns_ne _ (by simp), cutN_some a b h]
theorem lns_last (a : List UInt8) (h : (10 : UInt8) ∉ a) (hn : a ≠ []) : lns a = [a] := by
  rw [lns_ne _ hn, cutN_none a h, lns_nil]
theorem lns_len (l : List UInt8) : (lns l).length ≤ l.length := by
  generalize hn : l.length = n
  induction n using Nat.strongRecOn generalizing l with
  | ind n ih =>
    by_cases h : l = []
    · subst h; rw [lns_nil]; simp
    · rw [lns_ne l h, List.length_cons]
      have h1 := cutN_lt l h
      have := ih _ (by omega) (cutN l).2 rfl
      omega
/-- words -/
theorem sp_none (a : List UInt8) (h : (32 : UInt8) ∉ a) : split a [32] = [a] := by
  unfold split
  rw [count_miss (by rw [index_one, ib_none a 32 h])]; rfl
theorem sp_some (a b : List UInt8) (h : (32 : UInt8) ∉ a) : split (a ++ 32 :: b) [32] = a :: split b [32] := by
  have hi : index (a ++ 32 :: b) [32] = (a.length : Int) := by rw [index_one, ib_some a b 32 h]
  have hd : (a ++ 32 :: b).drop (a.length + 1) = b := by rw [← List.drop_drop, List.drop_left' rfl]; rfl
  unfold split
  rw [count_hit (by simp) hi]
  show splitK [32] 0 (1 + count ((a ++ 32 :: b).drop (a.length + 1)) [32]) _ = _
  rw [hd, Nat.add_comm, splitK, hi, if_neg (fun e => by have := beq_iff_eq.1 e; omega)]
  have e : ((a.length : Int)).toNat = a.length := by omega
  rw [e]
  show (a ++ 32 :: b).take (a.length + 0) :: splitK [32] 0 (count b [32]) ((a ++ 32 :: b).drop (a.length + 1)) = _
  rw [hd, Nat.add_zero, List.take_left' rfl]
theorem sp_three (a b c : List UInt8) (h1 : (32 : UInt8) ∉ a) (h2 : (32 : UInt8) ∉ b) (h3 : (32 : UInt8) ∉ c) : split (a ++ 32 :: (b ++ 32 :: c)) [32] = [a, b, c] := by
  rw [sp_some a _ h1, sp_some b c h2, sp_none c h3]
/-- a unit -/
structure Ut where
  nm : List UInt8
  mul : Int
  add : Int
  div : Int
def look (US : List Ut) (n : List UInt8) : Option Ut := US.find? fun u => u.nm == n
/-- whether a word has the form of a time -/
def isT (a : List UInt8) : Bool := decide (1 ≤ a.length) && (decide (a.length ≤ 13) && (!(a.head? == some 48 && a != [48]) && a.all fun c => decide (48 ≤ c.toNat) && decide (c.toNat ≤ 57)))
def p10 (n : Int) : Int := 10 ^ n.toNat
/-- what chapter 4 makes of a decimal -/
def cv (d pl : Int) (u : Ut) : Int := hup (d * u.mul + u.add * p10 pl) (u.div * p10 pl)
/-- what three words are read as -/
def line3 (US : List Ut) (a b n : List UInt8) : Rp × Int :=
  if n = [] ∨ isT a = false then ((0, 0), 3)
  else if rej (rn (trimPrefix b [45])) (hasPrefix b [45]) = true then ((0, 0), 3)
  else if 1099511627776 < (val a : Int) then ((0, 0), 1)
  else if 1000000000 < (rn (trimPrefix b [45])).digits then ((0, 0), 1)
  else match look US n with
    | none => ((0, 0), 7)
    | some u => if smp (cv (if hasPrefix b [45] = true then -(rn (trimPrefix b [45])).digits else (rn (trimPrefix b [45])).digits) (rn (trimPrefix b [45])).places u) = true then ((val a, cv (if hasPrefix b [45] = true then -(rn (trimPrefix b [45])).digits else (rn (trimPrefix b [45])).digits) (rn (trimPrefix b [45])).places u), 0) else ((val a, 0), 12)
/-- what a line is read as -/
def lineS (US : List Ut) (c : List UInt8) : Rp × Int :=
  match split c [32] with
  | [a, b, n] => line3 US a b n
  | _ => ((0, 0), 3)
/-- what the lines of a text are read as -/
def run (US : List Ut) : List (List UInt8) → Nat → List Rp → List Rp × Nat × Int
  | [], n, acc => (acc, 0, 0)
  | c :: cs, n, acc =>
    if c = [] ∨ c.head? = some 35 then run US cs (n + 1) acc
    else if (lineS US c).2 = 0 then (if acc.length = 2000 then ([], n, 4) else run US cs (n + 1) (acc ++ [(lineS US c).1]))
    else ([], n, (lineS US c).2)
theorem run_skip (US : List Ut) (c : List UInt8) (cs : List (List UInt8)) (n : Nat) (acc : List Rp) (h : c = [] ∨ c.head? = some 35) : run US (c :: cs) n acc = run US cs (n + 1) acc := by
  rw [run, if_pos h]
theorem run_bad (US : List Ut) (c : List UInt8) (cs : List (List UInt8)) (n : Nat) (acc : List Rp) (h : ¬ (c = [] ∨ c.head? = some 35)) (h0 : (lineS US c).2 ≠ 0) : run US (c :: cs) n acc = ([], n, (lineS US c).2) := by
  rw [run, if_neg h, if_neg h0]
theorem run_full (US : List Ut) (c : List UInt8) (cs : List (List UInt8)) (n : Nat) (acc : List Rp) (h : ¬ (c = [] ∨ c.head? = some 35)) (h0 : (lineS US c).2 = 0) (hl : acc.length = 2000) : run US (c :: cs) n acc = ([], n, 4) := by
  rw [run, if_neg h, if_pos h0, if_pos hl]
theorem run_good (US : List Ut) (c : List UInt8) (cs : List (List UInt8)) (n : Nat) (acc : List Rp) (h : ¬ (c = [] ∨ c.head? = some 35)) (h0 : (lineS US c).2 = 0) (hl : acc.length ≠ 2000) : run US (c :: cs) n acc = run US cs (n + 1) (acc ++ [(lineS US c).1]) := by
  rw [run, if_neg h, if_pos h0, if_neg hl]
end Go.Proofs.YtpbnabibnkohdaaGreatDoor.Rt
namespace Go.Proofs.YtpbnabibnkohdaaGreatDoor.Rt
open Go.Lib Un Rg
open Rm (Rp tm vl)
set_option linter.unusedVariables false
theorem nd_13 {n : Nat} (h : n ≤ 1099511627776) : nDigits n ≤ 13 := by
  rcases Nat.lt_or_ge 13 (nDigits n) with h1 | h1
  · exfalso
    have key : ∀ k u, k < nDigits u → 10 ^ k ≤ u ∨ k = 0 := by
      intro k
      induction k with
      | zero => intro u _; exact .inr rfl
      | succ k ih =>
        intro u hu
        by_cases h10 : u < 10
        · rw [nDigits_small h10] at hu; omega
        · rw [nDigits_big h10] at hu
          rcases ih (u / 10) (by omega) with h2 | h2
          · left; rw [Nat.pow_succ]; omega
          · left; subst h2; simp; omega
    rcases key 13 n h1 with h2 | h2
    · have : (10 : Nat) ^ 13 = 10000000000000 := by decide
      omega
    · omega
  · exact h1
theorem fb_zero (n : Nat) : fb n 0 = decDigits n := by
  unfold fb pad
  have := nDigits_pos n
  rw [if_pos rfl, show 0 + 1 - nDigits n = 0 by omega]; rfl
theorem itoa_fm (x : Int) : itoa x = fm x 0 := by
  unfold itoa fm
  rw [fb_zero]
  split
  · first | rfl | rw [show (-x).toNat = x.natAbs by omega]
  · first | rfl | rw [show x.toNat = x.natAbs by omega]
theorem fm_char (x : Int) : ∀ c ∈ fm x 0, c = 45 ∨ isD c := by
  intro c hc
  have hd := (dec_facts x.natAbs).1
  unfold fm at hc
  rw [fb_zero] at hc
  split at hc
  · rcases List.mem_cons.1 hc with h | h
    · exact .inl h
    · exact .inr (hd c h)
  · exact .inr (hd c hc)
theorem fm_no (x : Int) (k : UInt8) (h1 : k ≠ 45) (h2 : ¬ isD k) : k ∉ fm x 0 := fun h => (fm_char x k h).elim h1 h2
theorem no32 : ¬ isD (32 : UInt8) := by unfold isD; decide
theorem no10 : ¬ isD (10 : UInt8) := by unfold isD; decide
theorem fm_pos (t : Int) (h : 0 ≤ t) : fm t 0 = decDigits t.natAbs := by
  unfold fm
  rw [if_neg (by omega), fb_zero]
theorem isT_dec (n : Nat) (h : n ≤ 1099511627776) : isT (decDigits n) = true := by
  obtain ⟨a, b, c, d⟩ := dec_facts n
  have hl := decDigits_length n
  have h1 := nDigits_pos n
  have h2 := nd_13 h
  have hh : ((decDigits n).head? == some 48 && decDigits n != [48]) = false := by
    rcases Nat.eq_zero_or_pos n with h0 | h0
    · subst h0; rw [dec_small (by omega)]; decide
    · rcases hq : (decDigits n).head? with _ | q
      · rfl
      · have := d h0 q hq
        rw [show ((some q == some (48 : UInt8)) = false) from by simpa using this]
        rfl
  have ha : (decDigits n).all (fun c => decide (48 ≤ c.toNat) && decide (c.toNat ≤ 57)) = true := by
    rw [List.all_eq_true]
    intro x hx
    have := a x hx
    rw [decide_eq_true this.1, decide_eq_true this.2]; rfl
  unfold isT
  rw [decide_eq_true (by omega), decide_eq_true (by omega), hh, ha]; rfl
/-- the line of a reading -/
def lt (p : Rp) : List UInt8 := fm p.1 0 ++ 32 :: (fm p.2 0 ++ 32 :: [114, 97, 119])
/-- the text of readings -/
def ft (l : List Rp) : List UInt8 := l.flatMap fun p => lt p ++ [10]
theorem ft_cons (p : Rp) (l : List Rp) : ft (p :: l) = lt p ++ 10 :: ft l := by simp [ft]
theorem ft_app (a b : List Rp) : ft (a ++ b) = ft a ++ ft b := by simp [ft]
theorem lt_no (p : Rp) : (10 : UInt8) ∉ lt p := by
  intro h
  unfold lt at h
  rcases List.mem_append.1 h with h | h
  · exact fm_no p.1 10 (by decide) no10 h
  · rcases List.mem_cons.1 h with h | h
    · exact absurd h (by decide)
    · rcases List.mem_append.1 h with h | h
      · exact fm_no p.2 10 (by decide) no10 h
      · exact absurd h (by decide)
theorem lns_ft (l : List Rp) (b : List UInt8) : lns (ft l ++ b) = l.map lt ++ lns b := by
  induction l with
  | nil => rfl
  | cons p l ih =>
    rw [ft_cons, List.append_assoc, List.cons_append, lns_line _ _ (lt_no p), ih]; rfl
theorem prs_inv {S : Sc} {m : Bool} {X P : Int} (h : prs S m = .tuple #[.agg #[.int .i64 X, .int .i64 P], .int .i64 0]) :
    rej S m = false ∧ ¬ 1000000000 < S.digits ∧ (if m = true then -S.digits else S.digits) = X ∧ S.places = P := by
  unfold prs at h
  split at h
  · simp at h
  · rename_i h1
    split at h
    · simp at h
    · rename_i h2
      simp only [Value.tuple.injEq, Array.mk.injEq, List.cons.injEq, Value.agg.injEq, Value.int.injEq] at h
      exact ⟨by simpa using h1, h2, by simpa using h.1.1.2, by simpa using h.1.2.1.2⟩
def raw : Ut := ⟨[114, 97, 119], 1, 0, 1⟩
theorem line_lt (US : List Ut) (p : Rp) (hv : Vr p.1 p.2) (hU : look US [114, 97, 119] = some raw) : lineS US (lt p) = (p, 0) := by
  obtain ⟨t, v⟩ := p
  obtain ⟨t0, t1, v0, v1⟩ := hv
  simp only at t0 t1 v0 v1
  have hp : (lt (t, v)) = fm t 0 ++ 32 :: (fm v 0 ++ 32 :: [114, 97, 119]) := rfl
  have hT : isT (fm t 0) = true := by rw [fm_pos t t0]; exact isT_dec _ (by omega)
  have hval : (val (fm t 0) : Int) = t := by rw [fm_pos t t0, (dec_facts t.natAbs).2.1]; omega
  obtain ⟨b1, b2, b3, b4⟩ := prs_inv (fm_back v 0 (by omega) (by omega) (by omega))
  have hpre := fm_pre v 0
  have hcv : cv v 0 raw = v := by
    show hup (v * 1 + 0 * (10 ^ (0 : Int).toNat)) (1 * (10 ^ (0 : Int).toNat)) = v
    have e : (10 ^ (0 : Int).toNat : Int) = 1 := by rfl
    rw [e]; unfold hup; omega
  have hs : smp v = true := decide_eq_true ⟨v0, v1⟩
  unfold lineS
  rw [hp, sp_three _ _ _ (fm_no t 32 (by decide) no32) (fm_no v 32 (by decide) no32) (by decide)]
  simp only
  unfold line3
  rw [if_neg (by rw [hT]; simp), hpre.1, hpre.2, if_neg (by rw [b1]; simp), if_neg (by omega), if_neg b2, hU]
  simp only
  rw [b3, b4, show ((0 : Nat) : Int) = 0 from rfl, hcv, if_pos hs, hval]
theorem run_ft (US : List Ut) (hU : look US [114, 97, 119] = some raw) (l : List Rp) : ∀ (cs : List (List UInt8)) (n : Nat) (acc : List Rp), Vrs l → acc.length + l.length ≤ 2000 →
    run US (l.map lt ++ cs) n acc = run US cs (n + l.length) (acc ++ l) := by
  induction l with
  | nil => intro cs n acc _ _; simp
  | cons p l ih =>
    intro cs n acc hv hl
    have h0 : Vr p.1 p.2 := hv 0 (by simp)
    have hv' : Vrs l := fun i hi => by
      have := hv (i + 1) (by simpa using hi)
      simpa [tm, vl] using this
    have hL := line_lt US p h0 hU
    have hne : ¬ (lt p = [] ∨ (lt p).head? = some 35) := by
      have hc : ∃ c r, lt p = c :: r ∧ c ∈ fm p.1 0 := by
        rcases hq : fm p.1 0 with _ | ⟨c, r⟩
        · have h1 := decDigits_length p.1.natAbs
          have h2 := nDigits_pos p.1.natAbs
          rw [fm_pos p.1 h0.1] at hq
          rw [hq] at h1; simp at h1; omega
        · exact ⟨c, r ++ 32 :: (fm p.2 0 ++ 32 :: [114, 97, 119]), by unfold lt; rw [hq]; rfl, by simp⟩
      obtain ⟨c, r, e, hc⟩ := hc
      rw [e]
      intro h
      rcases h with h | h
      · simp at h
      · simp at h
        rcases fm_char p.1 c hc with h' | h'
        · rw [h] at h'; exact absurd h' (by decide)
        · rw [h] at h'; exact absurd h' (by unfold isD; decide)
    rw [List.map_cons, List.cons_append, run_good US _ _ n acc hne (by rw [hL]) (by simp at hl; omega), hL]
    rw [ih cs (n + 1) (acc ++ [p]) hv' (by simp at hl ⊢; omega)]
    simp only [List.length_cons, List.append_assoc, List.singleton_append]
    rw [show n + 1 + l.length = n + (l.length + 1) by omega]
end Go.Proofs.YtpbnabibnkohdaaGreatDoor.Rt
namespace Go.Proofs.YtpbnabibnkohdaaGreatDoor.Rg
open Go.ChangeShapes Go.WideShapes Go.RowKit Wo Sr Wi Rm
set_option linter.unusedVariables false
def cm (x y : Int) : Int := if x < y then -1 else if y < x then 1 else 0
theorem nan_ok (x : Int) (w : World) : Calls Tryz.prog 117 #[.int .i64 x] w fun e w' => e = .returned (.bool false) ∧ w = w' := by
  have n := ne_self x
  go_enter Tryz.func117, Tryz.ntmps117
  go_wp2
  go_ret
  exact ⟨rfl, rfl⟩
theorem compare_ok (x y : Int) (w : World) : Calls Tryz.prog 90 #[.int .i64 x, .int .i64 y] w fun e w' => e = .returned (.int .i64 (cm x y)) ∧ w = w' := by
  rcases Int.lt_trichotomy x y with h | h | h
  · have e : cm x y = -1 := if_pos h
    rw [e]
    clear e
    go_enter Tryz.func90, Tryz.ntmps90
    go_wp2_with (go_at_call 117; refine (nan_ok _ _).mono ?_; rintro e w' ⟨rfl, rfl⟩)
    go_wp2_with (go_at_call 117; refine (nan_ok _ _).mono ?_; rintro e w' ⟨rfl, rfl⟩)
    go_ret
    exact ⟨rfl, rfl⟩
  · have e : cm x y = 0 := by unfold cm; rw [if_neg (by omega), if_neg (by omega)]
    rw [e]
    clear e
    subst h
    go_enter Tryz.func90, Tryz.ntmps90
    go_wp2_with (go_at_call 117; refine (nan_ok _ _).mono ?_; rintro e w' ⟨rfl, rfl⟩)
    go_wp2_with (go_at_call 117; refine (nan_ok _ _).mono ?_; rintro e w' ⟨rfl, rfl⟩)
    go_ret
    exact ⟨rfl, rfl⟩
  · have e : cm x y = 1 := by unfold cm; rw [if_neg (by omega), if_pos h]
    rw [e]
    clear e
    go_enter Tryz.func90, Tryz.ntmps90
    go_wp2_with (go_at_call 117; refine (nan_ok _ _).mono ?_; rintro e w' ⟨rfl, rfl⟩)
    go_wp2_with (go_at_call 117; refine (nan_ok _ _).mono ?_; rintro e w' ⟨rfl, rfl⟩)
    go_ret
    exact ⟨rfl, rfl⟩
theorem closure_ok (x v y : Int) (w : World) : Calls Tryz.prog 89 #[.agg #[.int .i64 x, .int .i64 v], .int .i64 y] w fun e w' => e = .returned (.int .i64 (cm x y)) ∧ Bel w w' := by
  go_enter Tryz.func89, Tryz.ntmps89
  go_wp2_with (go_at_call 90; refine (compare_ok _ _ _).mono ?_; rintro e w' ⟨rfl, rfl⟩)
  go_ret
  exact ⟨rfl, by first | exact Bel.rf.al _ | exact (Bel.rf.al _).drwN _⟩
set_option maxHeartbeats 4000000 in
theorem search_ok (A : Option Addr) (c n : Nat) (l : List Rp) (hn : n ≤ 2000) (hs : Asc l) (t : Int) (w : World) (h : Zr w A n l) :
    Calls Tryz.prog 88 #[.slice A n c, .int .i64 t, .func (.func 89) #[] #[]] w fun e w' => e = .returned (.tuple #[.int .i64 (lb l t : Int), .bool (decide (lb l t < n ∧ tm l (lb l t) = t))]) ∧ Bel w w' := by
  have H1 := Lib.hid h
  have HS := Lib.hid hs
  have ni : (n : Int) ≤ 2000 := by omega
  clear h hs
  go_enter Tryz.func88, Tryz.ntmps88
  go_wp2
  go_loopw [9, 10] (fun s9 s10 wr => ∃ (i j : Nat) (V : World), V = wr ∧ i ≤ j ∧ j ≤ n ∧ s9 = .int .i64 (i : Int) ∧ s10 = .int .i64 (j : Int) ∧ Bel w wr ∧ (∀ q, q < i → tm l q < t) ∧ (∀ q, j ≤ q → q < n → t ≤ tm l q)) (fun s9 s10 _ => (intOf s10).toNat - (intOf s9).toNat)
  case atStart => exact ⟨0, n, _, rfl, by omega, by omega, rfl, rfl, Bel.rf, fun q hq => by omega, fun q h1 h2 => by omega⟩
  case round =>
    obtain ⟨i, j, wr, hwr, hij, hjn, rfl, rfl, hb, hlo, hhi⟩ := hrel
    subst hwr
    have HB := Lib.hid hb
    have HLH := Lib.hid (And.intro hlo hhi)
    clear hlo hhi
    rcases Nat.lt_or_ge i j with hlt | hge
    · obtain ⟨hh, hhe⟩ : ∃ h : Nat, (i + j) / 2 = h := ⟨_, rfl⟩
      have h1 : i ≤ hh := by omega
      have h2 : hh < j := by omega
      obtain ⟨g, rfl, hab, hac⟩ := (H1.out.bel hb).2 (by omega)
      obtain ⟨c1, c2⟩ := hac hh (by omega)
      obtain ⟨x, hxe⟩ : ∃ x, tm l hh = x := ⟨_, rfl⟩
      obtain ⟨y, hye⟩ : ∃ x, vl l hh = x := ⟨_, rfl⟩
      rw [hxe] at c1
      rw [hye] at c2
      have hdv : ((i : Int) + (j : Int)) / 2 = (hh : Int) := by omega
      have ki : (i : Int) < (j : Int) := by omega
      have ji : (j : Int) ≤ 2000 := by omega
      have hi1 : (hh : Int) < (n : Int) := by omega
      have hi2 : (hh : Int) ≤ 2000 := by omega
      have HX := Lib.hid (And.intro hxe hye)
      have HD := Lib.hid (And.intro h1 (And.intro h2 hhe))
      clear hb hac hab hxe hye hhe
      rcases Int.lt_or_le x t with hxt | hxt
      · have hcm : cm x t = -1 := if_pos hxt
        go_wp2_with (go_at_call 89; refine (closure_ok x y t _).mono ?_; rintro e w' ⟨rfl, hbr⟩; rw [hcm])
        go_roundw
        case rel => exact ⟨hh + 1, j, _, rfl, by omega, by omega, by go_num, rfl, by first | exact HB.out.tr hbr | exact (HB.out.drwN _).tr hbr | exact HB.out.drw.tr hbr, fun q hq => by
          rcases Nat.lt_or_ge q hh with h3 | h3
          · have := HS.out.lt h3 (by have := H1.out.1; omega)
            have := HX.out.1
            omega
          · rw [show q = hh by omega, HX.out.1]; exact hxt, HLH.out.2⟩
        case measure => simp [intOf]; omega
      · have hcm : 0 ≤ cm x t := by unfold cm; rw [if_neg (by omega)]; split <;> omega
        obtain ⟨cv, hcv⟩ : ∃ c, cm x t = c := ⟨_, rfl⟩
        rw [hcv] at hcm
        go_wp2_with (go_at_call 89; refine (closure_ok x y t _).mono ?_; rintro e w' ⟨rfl, hbr⟩; rw [hcv])
        go_roundw
        case rel => exact ⟨i, hh, _, rfl, by omega, by omega, rfl, rfl, by first | exact HB.out.tr hbr | exact (HB.out.drwN _).tr hbr | exact HB.out.drw.tr hbr, HLH.out.1, fun q hq hqn => by
          rcases Nat.lt_or_ge hh q with h3 | h3
          · have := HS.out.lt h3 (by have := H1.out.1; omega)
            have := HX.out.1
            omega
          · rw [show q = hh by omega, HX.out.1]; exact hxt⟩
        case measure => simp [intOf]; omega
    · obtain rfl : i = j := by omega
      have hlb : lb l t = i := lb_eq l t i HLH.out.1 (by have := H1.out.1; omega) (fun hi => HLH.out.2 i (by omega) (by have := H1.out.1; omega))
      have HLB := Lib.hid hlb
      clear hlb
      rcases Nat.lt_or_ge i n with hin | hin
      · obtain ⟨g, rfl, hab, hac⟩ := (H1.out.bel hb).2 (by omega)
        obtain ⟨c1, c2⟩ := hac i (by omega)
        obtain ⟨x, hxe⟩ : ∃ x, tm l i = x := ⟨_, rfl⟩
        obtain ⟨y, hye⟩ : ∃ x, vl l i = x := ⟨_, rfl⟩
        rw [hxe] at c1
        rw [hye] at c2
        have hi1 : (i : Int) < (n : Int) := by omega
        have hi2 : (i : Int) ≤ 2000 := by omega
        have HX := Lib.hid (And.intro hxe hye)
        clear hb hac hab hxe hye
        rcases Classical.em (x = t) with hxt | hxt
        · subst hxt
          have hcm : cm x x = 0 := by unfold cm; rw [if_neg (by omega), if_neg (by omega)]
          have EQ : Hid (Ending.returned (.tuple #[.int .i64 (lb l x : Int), .bool (decide (lb l x < n ∧ tm l (lb l x) = x))]) = .returned (.tuple #[.int .i64 (i : Int), .bool true])) := by
            show _ = _
            rw [HLB.out, HX.out.1, decide_eq_true (show i < n ∧ x = x from ⟨hin, rfl⟩)]
          go_wp2_with (go_at_call 89; refine (closure_ok x y x _).mono ?_; rintro e w' ⟨rfl, hbr⟩; rw [hcm])
          go_ret2
          exact ⟨EQ.out.symm, by first | exact HB.out.tr hbr | exact (HB.out.drwN _).tr hbr | exact HB.out.drw.tr hbr⟩
        · have hcm : cm x t ≠ 0 := by unfold cm; split <;> (try split) <;> omega
          obtain ⟨cv, hcv⟩ : ∃ c, cm x t = c := ⟨_, rfl⟩
          rw [hcv] at hcm
          have EQ : Hid (Ending.returned (.tuple #[.int .i64 (lb l t : Int), .bool (decide (lb l t < n ∧ tm l (lb l t) = t))]) = .returned (.tuple #[.int .i64 (i : Int), .bool false])) := by
            show _ = _
            rw [HLB.out, HX.out.1, decide_eq_false (show ¬ (i < n ∧ x = t) from fun h => hxt h.2)]
          have hcq : (cv == 0) = false := by simpa using hcm
          go_wp2_with (go_at_call 89; refine (closure_ok x y t _).mono ?_; rintro e w' ⟨rfl, hbr⟩; rw [hcv])
          go_ret2
          exact ⟨EQ.out.symm, by first | exact HB.out.tr hbr | exact (HB.out.drwN _).tr hbr | exact HB.out.drw.tr hbr⟩
      · obtain rfl : i = n := by omega
        have EQ : Hid (Ending.returned (.tuple #[.int .i64 (lb l t : Int), .bool (decide (lb l t < i ∧ tm l (lb l t) = t))]) = .returned (.tuple #[.int .i64 (i : Int), .bool false])) := by
          show _ = _
          rw [HLB.out, decide_eq_false (show ¬ (i < i ∧ tm l i = t) from fun h => by omega)]
        clear hb
        go_wp2
        go_ret2
        exact ⟨EQ.out.symm, by first | exact HB.out | exact HB.out.drwN _⟩
end Go.Proofs.YtpbnabibnkohdaaGreatDoor.Rg
namespace Go.Proofs.YtpbnabibnkohdaaGreatDoor.Rg
open Go.ChangeShapes Go.WideShapes Go.RowKit Wo Sr Wi Rm
set_option linter.unusedVariables false
/-- a valid grid -/
def Gv (f s c r q : Int) : Prop := 0 ≤ f ∧ f ≤ 1099511627776 ∧ 1 ≤ s ∧ s ≤ 1099511627776 ∧ 0 ≤ c ∧ c ≤ 2000 ∧ (0 < c → f + (c - 1) * s ≤ 1099511627776) ∧ 1 ≤ r ∧ r ≤ 3 ∧ 0 ≤ q ∧ q ≤ 1099511627776
def gv (f s c r q : Int) : Value := .agg #[.int .i64 f, .int .i64 s, .int .i64 c, .int .i64 r, .int .i64 q]
theorem mul_in {a b x y : Int} (a0 : -x ≤ a) (a1 : a ≤ x) (b0 : 0 ≤ b) (b1 : b ≤ y) (x0 : 0 ≤ x) : -(x * y) ≤ a * b ∧ a * b ≤ x * y := by
  have h1 := Int.mul_le_mul_of_nonneg_right a1 b0
  have h2 := Int.mul_le_mul_of_nonneg_right a0 b0
  have h3 := Int.mul_le_mul_of_nonneg_left b1 x0
  have h4 : -x * b = -(x * b) := by grind
  omega
set_option maxHeartbeats 4000000 in
theorem valid_ok (f s c r q : Int) (h : Gv f s c r q) (w : World) : Calls Tryz.prog 60 #[gv f s c r q] w fun e w' => e = .returned (.bool true) ∧ Bel w w' := by
  obtain ⟨f0, f1, s0, s1, c0, c1, h1, r0, r1, q0, q1⟩ := h
  unfold gv
  rcases Int.lt_or_le 0 c with hc | hc
  · have hp := mul_in (a := c - 1) (b := s) (x := 2000) (y := 1099511627776) (by omega) (by omega) (by omega) s1 (by decide)
    have hl := h1 hc
    obtain ⟨p, hpp⟩ : ∃ p, (c - 1) * s = p := ⟨_, rfl⟩
    rw [hpp] at hp hl
    have wp : wrap64 p = p := IntWalk.wrap64_in _ (by omega)
    have wp2 : IntKind.i64.wrap p = p := IntWalk.i64_in _ (by omega)
    clear h1
    rcases (show r = 1 ∨ r = 2 ∨ r = 3 by omega) with rfl | rfl | rfl
    all_goals
      go_enter Tryz.func60, Tryz.ntmps60
      go_wp2
      go_ret
      exact ⟨rfl, by first | exact Bel.rf.al _ | exact (Bel.rf.al _).drwN _⟩
  · obtain rfl : c = 0 := by omega
    clear h1
    rcases (show r = 1 ∨ r = 2 ∨ r = 3 by omega) with rfl | rfl | rfl
    all_goals
      go_enter Tryz.func60, Tryz.ntmps60
      go_wp2
      go_ret
      exact ⟨rfl, by first | exact Bel.rf.al _ | exact (Bel.rf.al _).drwN _⟩
theorem asc_vrs {l : List Rp} (h : Asc l) : Vrs l := fun i hi => h.1 i hi
set_option maxHeartbeats 4000000 in
theorem regular_ok (A : Option Addr) (c n : Nat) (l : List Rp) (hn : n ≤ 2000) (hs : Asc l) (w : World) (h : Zr w A n l) :
    Calls Tryz.prog 61 #[.slice A n c] w fun e w' => e = .returned (.int .i64 0) ∧ Bel w w' := by
  have H1 := Lib.hid h
  have HS := Lib.hid hs
  have ni : (n : Int) ≤ 2000 := by omega
  clear h hs
  go_enter Tryz.func61, Tryz.ntmps61
  go_wp2_with (go_at_call 87; refine (readings_ok A c n l hn (asc_vrs HS.out) _ H1.out).mono ?_; rintro e w1 ⟨rfl, hb1⟩)
  go_loopw [4] (fun s4 wr => ∃ (k : Nat) (V : World), V = wr ∧ 1 ≤ k ∧ k ≤ n + 1 ∧ s4 = .int .i64 (k : Int) ∧ Bel w wr) (fun s4 _ => n + 1 - (intOf s4).toNat)
  case atStart => exact ⟨1, _, rfl, by omega, by omega, rfl, by first | exact hb1 | exact hb1.drwN _⟩
  case round =>
    obtain ⟨k, wr, hwr, hk0, hk, rfl, hb⟩ := hrel
    subst hwr
    have HB := Lib.hid hb
    rcases Nat.lt_or_ge k n with hlt | hge
    · obtain ⟨g, rfl, hab, hac⟩ := (H1.out.bel hb).2 (by omega)
      obtain ⟨c1, c2⟩ := hac k hlt
      obtain ⟨p, hp⟩ : ∃ p, k - 1 = p := ⟨_, rfl⟩
      obtain ⟨c3, c4⟩ := hac p (by omega)
      have hx := HS.out.lt (show p < k by omega) (by rw [H1.out.1]; exact hlt)
      obtain ⟨x, hxe⟩ : ∃ x, tm l k = x := ⟨_, rfl⟩
      obtain ⟨y, hye⟩ : ∃ x, tm l p = x := ⟨_, rfl⟩
      rw [hxe] at c1 hx
      rw [hye] at c3 hx
      have ki : (k : Int) < (n : Int) := by omega
      have kp : (k : Int) - 1 = (p : Int) := by omega
      have pi : (p : Int) < (n : Int) := by omega
      have e1 : ¬ x ≤ y := by omega
      have e2 : decide (x ≤ y) = false := by simpa using hx
      clear hb hac hab hxe hye hx c2 c4 hb1
      go_wp2
      go_quiet (fail)
      go_wp2
      go_roundw
      case rel => exact ⟨k + 1, _, rfl, by omega, by omega, by go_num, by first | exact HB.out | exact HB.out.drwN _⟩
      case measure => simp [intOf]; omega
    · have ki : (n : Int) ≤ (k : Int) := by omega
      clear hb hb1
      go_wp2
      go_ret
      exact ⟨rfl, by first | exact HB.out | exact HB.out.drwN _⟩
end Go.Proofs.YtpbnabibnkohdaaGreatDoor.Rg
