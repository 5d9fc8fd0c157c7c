/- Merged: Ser3 Ser7 Bytes BitMath IntMath CodecFold CodecPut PackMath CrcMath SealM SgRep CodecInt CodecSum CodecSum2 Euc1 Euc. -/
import Derived.Test.YtpbnabibnkohdaaGreatDoorRows
import Derived.Test.YtpbnabibnkohdaaGreatDoorGc1
import Derived.Test.YtpbnabibnkohdaaGreatDoorGc2
import Derived.Test.YtpbnabibnkohdaaGreatDoorGc3
import Derived.Test.YtpbnabibnkohdaaGreatDoorGc4
import Derived.BigQuiet
import Derived.Laws.CopyOwn
import Derived.OwnWalk
import Derived.Laws.MakeOwn
import Derived.Laws.OwnMore
import Derived.Laws.AppendOwnNone
import Derived.Deep.DeepCutAuto
import Derived.Deep.MidRow
import Derived.Deep.CutBlock
import Derived.Laws.Entries
import Derived.IntWalk
import Derived.Lib.EndianBits
import Derived.Below
import Derived.WalkLawsBesides
import Derived.WalkSpells
import Derived.Outline
import Derived.Deep.QuietTactic
import Derived.RegionTactic
import Derived.Laws.Bits64b
import Derived.Laws.MathBits
import Derived.Deep.RegionLaw
import Derived.Laws.Rows
import Derived.Laws.ResultCell
namespace Go.Proofs.YtpbnabibnkohdaaGreatDoor.Se
open Go.RowKit Go.Shelf Wo Sr Wi
set_option linter.unusedVariables false
attribute [local go_sem] Oper.semAt_some
theorem runs_stops (d : Nat) (hd : 1 ≤ d) (Bo Bx : Nat) (A : Option Addr) (c n : Nat) (L : List Int) (hn : n ≤ 3000) (w : World) (hx1 : Bx < w.heap.size) (hx2 : Bx ≠ Bo) (hbx : w.cell? ⟨Bx, 0, none⟩ = some (.slice A n c)) (hz : Zi w A n L) (hzb : 0 < n → ∀ ad, A = some ad → ad.block ≠ Bo) :
    SeqStopsK Fence.wide d Tryz.prog 120 #[.pointer (some ⟨Bx, 0, none⟩)] encr (fun W W' => Kq w.heap.size Bo W W' ∧ w.heap.size ≤ W'.heap.size) (fun ys => rv ys = rns L 0 0) (fun _ => True) (n + 1) w := fun l J Jx W hW hJ _ hY h0 =>
  runs1_in d hd w.heap.size Bo l Bx A c n L hn J Jx W hJ hY hx1 hx2 ((hW.cell (p := ⟨Bx, 0, none⟩) hx1).trans hbx) (hz.bel hW) (fun h ad e => ⟨zi_lt hz ad h e, hzb h ad e⟩) h0
theorem kq_t {n₀ Bo : Nat} {A B C : World} (h : Kq n₀ Bo A B ∧ n₀ ≤ B.heap.size) (k : Kq n₀ Bo B C ∧ n₀ ≤ C.heap.size) : Kq n₀ Bo A C ∧ n₀ ≤ C.heap.size := ⟨fun b h1 h2 => (k.1 b h1 h2).trans (h.1 b h1 h2), k.2⟩
theorem kq_b {n₀ Bo : Nat} (W : World) (l : Nat) (o o' : Obj) (hl : n₀ ≤ l) (h : W.heap[l]? = some o) : Kq n₀ Bo W (W.putObj l o') ∧ n₀ ≤ (W.putObj l o').heap.size := ⟨fun b hb _ => by
  unfold World.putObj
  simp [show l ≠ b by omega], by
  have := (Array.getElem?_eq_some_iff.1 h).1
  unfold World.putObj
  simp; omega⟩
theorem kq_bl {n₀ Bo : Nat} {W W' : World} (h : Below n₀ W W') (hs : n₀ ≤ W.heap.size) : Kq n₀ Bo W W' ∧ n₀ ≤ W'.heap.size := ⟨fun b hb _ => h.block b hb, Nat.le_trans hs h.size⟩
/-- the starts of the runs that have come -/
def stl (m : Nat) (pre : List Rn) : List Int := ((rv pre).flatMap (ofRun m)).map Int.ofNat
theorem stl_len (m : Nat) (pre : List Rn) : (stl m pre).length ≤ pre.length * 3001 := by
  induction pre with
  | nil => simp [stl, rv]
  | cons x l ih =>
    have e : stl m (x :: l) = (ofRun m x.1).map Int.ofNat ++ stl m l := by simp [stl, rv]
    have h2 : (ofRun m x.1).length ≤ 3001 := by
      have := x.2
      simp [ofRun]; omega
    rw [e, List.length_append, List.length_map, List.length_cons]
    omega
/-- t starts of the run x behind those of pre -/
def stp (m : Nat) (pre : List Rn) (x : Rn) (t : Nat) : List Int := stl m pre ++ (List.range t).map (fun i => ((x.1.1 + i : Nat) : Int))
theorem stp_all (m : Nat) (pre : List Rn) (x : Rn) : stp m pre x (x.1.2 + 1 - m) = stl m (pre ++ [x]) := by
  simp [stp, stl, rv, ofRun]
theorem stp_zero (m : Nat) (pre : List Rn) (x : Rn) : stp m pre x 0 = stl m pre := by simp [stp]
theorem stp_len (m : Nat) (pre : List Rn) (x : Rn) (t : Nat) : (stp m pre x t).length = (stl m pre).length + t := by simp [stp]
theorem stp_next (m : Nat) (pre : List Rn) (x : Rn) (t : Nat) : stp m pre x (t + 1) = stp m pre x t ++ [(x.1.1 : Int) + (t : Int)] := by
  simp [stp, List.range_succ]
theorem stl_sts {L : List Int} {m : Nat} {ys : List Rn} (h : rv ys = rns L 0 0) : stl m ys = (sts L m).map Int.ofNat := by
  unfold stl sts; rw [h]
theorem own_ne {W : World} {base k size : Nat} {e : TypeId} {v : Value} {xs : List Value} (h : W.ownsRow base e size v k xs) {b : Nat} (hb : b < base) : some b ≠ v.ownBlock := by
  intro hg
  rcases h.2 with ⟨rfl, _⟩ | ⟨g, cap, cur, rfl, hh, _⟩
  · cases hg
  · injection hg with hg
    have : b = g := hg
    omega
theorem own_nd {W : World} {base k size : Nat} {e : TypeId} {v : Value} {xs : List Value} (h : W.ownsRow base e size v k xs) {b : Nat} {o : Obj} (hb : W.heap[b]? = some o) (ho : o.isCells = false) : some b ≠ v.ownBlock := by
  intro hg
  rcases h.2 with ⟨rfl, _⟩ | ⟨g, cap, cur, rfl, _, hh, _⟩
  · cases hg
  · injection hg with hg
    have : b = g := hg
    subst this
    rw [hb] at hh
    cases hh
    cases ho
theorem own_lo {w : World} {base base' size n : Nat} {e : TypeId} {v : Value} {xs : List Value} (h : w.ownsRow base e size v n xs) (hb : base' ≤ base) : w.ownsRow base' e size v n xs := by
  refine ⟨h.1, ?_⟩
  rcases h.2 with hn | ⟨g, cap, cur, rfl, hbb, rest⟩
  · exact .inl hn
  · exact .inr ⟨g, cap, cur, rfl, by omega, rest⟩
theorem cell_lt {W : World} {b k : Nat} {v : Value} (h : W.cell? ⟨b, k, none⟩ = some v) : b < W.heap.size := by
  obtain ⟨o, ho, _⟩ := cells_of_cell h
  exact (Array.getElem?_eq_some_iff.1 ho).1
theorem own_blk_ne {w : World} {base g : Nat} {e t : TypeId} {cs : Array Value} {size n : Nat} {v : Value} {xs : List Value} (h : w.ownsRow base e size v n xs) (hg : Bk w g t cs) (hne : e ≠ t) : v.ownBlock ≠ some g := by
  rcases h.2 with ⟨rfl, _⟩ | ⟨g', cap, cur, rfl, _, hh, _⟩
  · simp [Value.ownBlock]
  · intro he
    have : g' = g := by simpa [Value.ownBlock] using he
    subst this
    unfold Bk at hg
    rw [hg] at hh
    injection hh with hh
    injection hh with _ ht
    exact hne ht.symm
theorem bk_own {g : Nat} {t : TypeId} {cs : Array Value} {B : Nat} {A W : World} {row : Option Nat} (h : Bk A g t cs) (hg : A.grownBy W row) (hr : ∀ r, row = some r → B ≤ r ∧ ∃ o : Obj, A.heap[r]? = some o ∧ o.isCells = false) : Bk W g t cs :=
  (hg.block g h.lt (fun e => by
    obtain ⟨_, o, ho, hc⟩ := hr g e.symm
    unfold Bk at h
    rw [h] at ho
    cases ho
    cases hc)).trans h
end Go.Proofs.YtpbnabibnkohdaaGreatDoor.Se
namespace Go.Proofs.YtpbnabibnkohdaaGreatDoor.Se
open Go.ChangeShapes Go.WideShapes Go.RowKit Wo Sr Wi
set_option linter.unusedVariables false
def exL : List Int := [1, 2, 1073741824, 3, 4, 5]
theorem exL_sv : Sv exL := fun x hx => by
  simp [exL] at hx
  omega
/-- a series that was drawn -/
def SomeSer (g n : Nat) (w : World) (e : Ending) (w' : World) : Prop := ∃ (st sp : Int) (A : Option Addr) (m c : Nat) (L : List Int), e = .returned (.agg #[.int .i64 st, .int .i64 sp, .slice A m c]) ∧ 0 ≤ st ∧ st ≤ 1000 ∧ 1 ≤ sp ∧ sp ≤ 20 ∧ m ≤ n ∧ Sv L ∧ Vs w' A m c L ∧ (∀ ad, A = some ad → w.heap.size ≤ ad.block) ∧ Ok w' g ∧ Ch g w w'
theorem own_blk_ne2 {w : World} {base g : Nat} {e t : TypeId} {cs : Array Value} {size n : Nat} {v : Value} {xs : List Value} (h : w.ownsRow base e size v n xs) (hg : Bk w g t cs) (hne : e ≠ t) : v.ownBlock ≠ some g := by
  rcases h.2 with ⟨rfl, _⟩ | ⟨g', cap, cur, rfl, _, hh, _⟩
  · simp [Value.ownBlock]
  · intro he
    have : g' = g := by simpa [Value.ownBlock] using he
    subst this
    unfold Bk at hg
    rw [hg] at hh
    injection hh with hh
    injection hh with _ ht
    exact hne ht.symm
theorem sv_set {L : List Int} (h : Sv L) (k : Nat) : Sv (L.set k 1073741824) := by
  intro x hx
  rcases List.mem_or_eq_of_mem_set hx with h' | rfl
  · exact h x h'
  · exact .inr rfl
end Go.Proofs.YtpbnabibnkohdaaGreatDoor.Se
namespace Go.Proofs.YtpbnabibnkohdaaGreatDoor.By
open Go.ChangeShapes Go.WideShapes Go.RowKit Wo
set_option linter.unusedVariables false
/-- the values of a list of bytes -/
def bys (L : List Nat) : List Value := L.map fun c : Nat => .int .u8 (c : Int)
theorem bys_len (L : List Nat) : (bys L).length = L.length := by simp [bys]
theorem bys_app (L M : List Nat) : bys (L ++ M) = bys L ++ bys M := by simp [bys]
theorem bys_one {L : List Nat} : ∀ v ∈ bys L, v.oneCell' = true := by
  intro v hv
  simp only [bys, List.mem_map] at hv
  obtain ⟨c, _, rfl⟩ := hv
  rfl
theorem bys_at {L : List Nat} {j : Nat} (h : j < L.length) : (bys L)[j]? = some (.int .u8 (L.getD j 0 : Nat)) := by
  simp [bys, List.getD_eq_getElem?_getD, h]
/-- the slice at A of length n reads as the bytes L -/
def Rd (w : World) (A : Option Addr) (n : Nat) (L : List Nat) : Prop := L.length = n ∧ (∀ c ∈ L, c < 256) ∧ (0 < n → ∃ ad : Addr, A = some ad ∧ ad.block < w.heap.size ∧ ∀ j, j < n → w.cell? (ad.add j) = some (.int .u8 (L.getD j 0 : Nat)))
theorem add_blk (a : Addr) (n : Nat) : (a.add n).block = a.block := by unfold Addr.add; split <;> rfl
theorem Rd.bel {w w' : World} {A : Option Addr} {n : Nat} {L : List Nat} (h : Rd w A n L) (hb : Bel w w') : Rd w' A n L :=
  ⟨h.1, h.2.1, fun hn => by
    obtain ⟨ad, e, hx, hc⟩ := h.2.2 hn
    exact ⟨ad, e, by have := hb.size; omega, fun j hj => hb.kp (hc j hj)⟩⟩
theorem Rd.nil (w : World) (A : Option Addr) : Rd w A 0 [] := ⟨rfl, by simp, fun h => by omega⟩
theorem add_row (h j : Nat) : (⟨h, 0, none⟩ : Addr).add j = ⟨h, j, none⟩ := by unfold Addr.add; split <;> simp_all
theorem Rd.own {w : World} {base cap h n : Nat} {e : TypeId} {L : List Nat} (hr : w.ownsRow base e 1 (.slice (some ⟨h, 0, none⟩) n cap) n (bys L)) (hl : ∀ c ∈ L, c < 256) (hn : L.length = n) : Rd w (some ⟨h, 0, none⟩) n L := by
  refine ⟨hn, hl, fun _ => ⟨_, rfl, (hr.lt h rfl).2, fun j hj => ?_⟩⟩
  exact hr.cells (g := h) rfl j _ (bys_at (by omega))
theorem Rd.byte {w : World} {A : Option Addr} {n : Nat} {L : List Nat} (h : Rd w A n L) (j : Nat) : L.getD j 0 < 256 := by
  rw [List.getD_eq_getElem?_getD]
  rcases hj : L[j]? with _ | c
  · simp
  · exact h.2.1 c (List.mem_of_getElem? hj)
/-- 'make([]T, l, c)', the length and the capacity variables -/
theorem wpList_make_any {P : Program} (w : World) {ops : Array Oper} {rest : List Oper} {o : Oper} {a : Act} {Q : Exit → Act → World → Prop}
    (hg : o.guard = none) (l c : Operand) (t : TypeId) (hop : o.op = Op.makeSlice t l c)
    (e : TypeId) (i : TypeInfo) (z : Value) (size : Nat) (h1 : P.underlying t = some (.slice e)) (h2 : P.info? e = some i) (h3 : i.zero = some z) (h4 : i.size = size)
    (kl kc : IntKind) (L C : Int) (m n : Nat) (hl : a.eval l = .int kl L) (hc : a.eval c = .int kc C) (hL : L = (m : Int)) (hC : C = (n : Int)) (hmn : m ≤ n) (b2 : i.bytes * n ≤ 281474976710656) (b3 : n ≤ 4611686018427387904)
    (hK : wpList P ops Q rest (a.put o.dst (.slice (some ⟨w.heap.size, 0, none⟩) m n)) (w.alloc (.cells (madeCells z.cells (n * size)) e))) :
    wpList P ops Q (o :: rest) a w := by
  refine wpList_plain hg fun K hK' => ?_
  have hb' : (i.bytes : Int) * (n : Int) ≤ 281474976710656 := by
    have h : ((i.bytes * n : Nat) : Int) ≤ 281474976710656 := by omega
    rwa [Int.natCast_mul] at h
  have hr := run_make (P := P) w t e i z h1 h2 h3 kl kc m n (by omega) (by omega) hb' (by omega)
  simp only [Int.toNat_natCast] at hr
  subst hL
  subst hC
  subst h4
  unfold Oper.wp
  simp [execOp, hop, hl, hc, hr, Result.andThen]
  exact hK' _ _ hK
theorem made_u8 (n : Nat) : madeCells (Value.int .u8 0).cells (n * 1) = (bys (List.replicate n 0)).toArray := by
  apply Array.ext
  · simp [madeCells, bys]
  · intro i h1 h2
    simp [madeCells, bys, Nat.mod_one, Value.cells]
theorem bk_setCells_aux {g : Nat} {t : TypeId} (vs : List Value) : ∀ (o : Nat) (w : World) (cs : Array Value), Bk w g t cs → o + vs.length ≤ cs.size →
    ∃ cs', Bk (w.setCells g o vs) g t cs' ∧ cs'.size = cs.size ∧ (∀ j, j < vs.length → cs'[o + j]? = vs[j]?) ∧ ∀ j, j < o → cs'[j]? = cs[j]? := by
  induction vs with
  | nil => intro o w cs h hl; exact ⟨cs, h, rfl, fun j hj => by simp at hj, fun _ _ => rfl⟩
  | cons v vs ih =>
    intro o w cs h hl
    simp only [List.length_cons] at hl
    obtain ⟨cs', h1, h2, h3, h4⟩ := ih (o + 1) (w.setCell ⟨g, o, none⟩ v) (cs.setIfInBounds o v) (h.st o v) (by simp; omega)
    refine ⟨cs', h1, by simpa using h2, fun j hj => ?_, fun j hj => ?_⟩
    · rcases Nat.eq_zero_or_pos j with h0 | h0
      · subst h0
        rw [Nat.add_zero, h4 o (by omega)]
        have : o < cs.size := by omega
        simp [this]
      · obtain ⟨k, rfl⟩ : ∃ k, j = k + 1 := ⟨j - 1, by omega⟩
        rw [show o + (k + 1) = o + 1 + k by omega, h3 k (by simp at hj; omega)]
        simp
    · rw [h4 j (by omega), Array.getElem?_setIfInBounds_ne (by omega)]
theorem bk_setCells {g : Nat} {t : TypeId} {w : World} {cs ds : Array Value} (h : Bk w g t cs) (hs : ds.size = cs.size) : Bk (w.setCells g 0 ds.toList) g t ds := by
  obtain ⟨cs', h1, h2, h3, h4⟩ := bk_setCells_aux ds.toList 0 w cs h (by simp; omega)
  have : cs' = ds := by
    apply Array.ext_getElem?
    intro i
    rcases Nat.lt_or_ge i ds.size with hi | hi
    · have := h3 i (by simpa using hi)
      simpa using this
    · rw [Array.getElem?_eq_none (by omega), Array.getElem?_eq_none hi]
  rwa [this] at h1
theorem setCells_far {g : Nat} (vs : List Value) : ∀ (o : Nat) (w : World) (k : Nat), k ≠ g → (w.setCells g o vs).heap[k]? = w.heap[k]? := by
  induction vs with
  | nil => intro o w k h; rfl
  | cons v vs ih => intro o w k h; exact (ih (o + 1) _ k h).trans (Below.heap_setCell w ⟨g, o, none⟩ v k h)
theorem setCells_same {g : Nat} (vs : List Value) : ∀ (o : Nat) (w : World), (w.setCells g o vs).os = w.os ∧ (w.setCells g o vs).tape = w.tape ∧ (w.setCells g o vs).output = w.output ∧ (w.setCells g o vs).heap.size = w.heap.size := by
  induction vs with
  | nil => intro o w; exact ⟨rfl, rfl, rfl, rfl⟩
  | cons v vs ih =>
    intro o w
    obtain ⟨a, b, c, d⟩ := ih (o + 1) (w.setCell ⟨g, o, none⟩ v)
    exact ⟨a, b, c, d.trans (by simp [World.setCell])⟩
theorem bel_setCells {a b : World} {g : Nat} (h : Bel a b) (hg : a.heap.size ≤ g) (vs : List Value) : Bel a (b.setCells g 0 vs) := by
  obtain ⟨x, y, z, s⟩ := setCells_same (g := g) vs 0 b
  exact ⟨x.trans h.bl.os, y.trans h.bl.tape, z.trans h.bl.output, by rw [s]; exact h.size, fun k hk => (setCells_far vs 0 b k (by omega)).trans (h.bl.block k hk)⟩
theorem bk_there {g : Nat} {t : TypeId} {w : World} {cs : Array Value} (h : Bk w g t cs) : w.there g 0 cs.size := fun j hj => by
  rw [Nat.zero_add]
  exact ⟨by rw [h.cell j]; simp [hj], h.fr j⟩
/-- a store of a whole long array into a variable of its own -/
theorem wpList_store_big {P : Program} {ops : Array Oper} {rest : List Oper} {op : Oper} {a : Act} {w : World} {Q : Exit → Act → World → Prop} (hgd : op.guard = none) (ty : TypeId) (x y : Operand) (ho : op.op = .store ty x y)
    (g : Nat) (cells cs : Array Value) (t : TypeId) (hx : a.eval x = .pointer (some ⟨g, 0, none⟩)) (hy : a.eval y = .agg cells) (hb : Bk w g t cs) (hs : cells.size = cs.size)
    (hi : (P.info? ty).map (·.size) = some cells.size) (h1 : cells.all (·.oneCell') = true)
    (h : ∀ w', Hid (Bk w' g t cells) → Hid (∀ b, Bel b w → b.heap.size ≤ g → Bel b w') → wpList P ops Q rest (a.put op.dst undef) w') : wpList P ops Q (op :: rest) a w :=
  wpList_store_mid hgd ty x y ho g 0 cells hx hy (by rw [hs]; exact bk_there hb) hi h1 (h _ (bk_setCells hb hs) (fun b hbb hg => bel_setCells hbb hg _))
theorem Rd.src {w : World} {ad : Addr} {n : Nat} {L : List Nat} (h : Rd w (some ad) n L) : ∀ j v, (bys L)[j]? = some v → w.cell? (ad.add j) = some v := by
  intro j v hv
  have hj : j < L.length := by
    rcases Nat.lt_or_ge j L.length with h | h
    · exact h
    · rw [List.getElem?_eq_none (by rw [bys_len]; exact h)] at hv; cases hv
  obtain ⟨ad', e, _, hc⟩ := h.2.2 (by have := h.1; omega)
  cases e
  rw [bys_at hj] at hv
  cases hv
  exact hc j (by have := h.1; omega)
/-- append of a slice that reads as bytes, nil or not, to a row of the call's own -/
theorem wpList_append_rd {P : Program} {w : World} {ops : Array Oper} {rest : List Oper} {o : Oper} {a : Act} {Q : Exit → Act → World → Prop} (hgd : o.guard = none) (s x : Operand) (t : TypeId)
    (ho : o.op = .call { callee := .builtin .append, args := #[s, x], argTypes := #[t, t] })
    (base : Nat) (e : TypeId) (i : TypeInfo) (z : Value) (ht : P.underlying t = some (.slice e)) (hi : P.info? e = some i) (hz : i.zero = some z) (hsize : i.size = 1) (hby : i.bytes = 1) (hzs : z.cells.size = 1)
    (v : Value) (n : Nat) (xs : List Value) (hs : a.eval s = v) (hown : w.ownsRow base e 1 v n xs)
    (A : Option Addr) (m c : Nat) (M : List Nat) (hx : a.eval x = .slice A m c) (hr : Rd w A m M) (hn : A = none → c = 0) (hm : n + m ≤ 140737488355328) (hbase : base ≤ w.heap.size)
    (h : ∀ v' w', w'.ownsRow base e 1 v' (n + m) (xs ++ bys M) → w.grownBy w' v.ownBlock → wpList P ops Q rest (a.put o.dst v') w') : wpList P ops Q (o :: rest) a w := by
  cases A with
  | none =>
    have hm0 : m = 0 := by
      rcases Nat.eq_zero_or_pos m with h0 | h0
      · exact h0
      · obtain ⟨ad, e, _⟩ := hr.2.2 h0; cases e
    have hc0 := hn rfl
    subst hm0 hc0
    have hM : M = [] := List.eq_nil_of_length_eq_zero hr.1
    subst hM
    refine wpList_append_own_none hgd s x t ho base e i 1 ht hi v n xs hs hown hx ?_
    exact h v w (by simpa [bys] using hown) (World.grownBy.refl _ _)
  | some ad =>
    refine wpList_append_own w hgd s x t ho base e i z 1 1 ht hi hz hsize hby hzs (by decide) v n xs hs hown ad m c (bys M) hx (by rw [bys_len, hr.1]; omega) hr.src bys_one (by unfold maxLen; omega) (by omega) hbase ?_
    intro v' w' h1 h2 _
    exact h v' w' h1 h2
end Go.Proofs.YtpbnabibnkohdaaGreatDoor.By
namespace Go.Proofs.YtpbnabibnkohdaaGreatDoor.Bm
set_option linter.unusedVariables false
theorem wrap_id {k : IntKind} {n : Int} (h : k.wrap n = n) : k.wrap n = n := h
theorem wrap_u8 (n : Int) : IntKind.u8.wrap n = n % 256 := by simp [IntKind.wrap, IntKind.bits, IntKind.signed]
theorem xor_u32 {a b : Nat} (ha : a < 4294967296) (hb : b < 4294967296) : bits .xor .u32 (a : Int) (b : Int) = ((a ^^^ b : Nat) : Int) := by
  have hx : a ^^^ b < 4294967296 := Nat.xor_lt_two_pow (n := 32) ha hb
  show IntKind.u32.wrap (((BitVec.ofInt 32 (a : Int) ^^^ BitVec.ofInt 32 (b : Int)).toNat : Nat) : Int) = _
  rw [BitVec.ofInt_natCast, BitVec.ofInt_natCast, BitVec.toNat_xor, BitVec.toNat_ofNat, BitVec.toNat_ofNat, show (2 : Nat) ^ 32 = 4294967296 from rfl, Nat.mod_eq_of_lt ha, Nat.mod_eq_of_lt hb, IntKind.wrap_u32]
  omega
theorem xor_u8 {a b : Nat} (ha : a < 256) (hb : b < 256) : bits .xor .u8 (a : Int) (b : Int) = ((a ^^^ b : Nat) : Int) := by
  have hx : a ^^^ b < 256 := Nat.xor_lt_two_pow (n := 8) ha hb
  show IntKind.u8.wrap (((BitVec.ofInt 8 (a : Int) ^^^ BitVec.ofInt 8 (b : Int)).toNat : Nat) : Int) = _
  rw [BitVec.ofInt_natCast, BitVec.ofInt_natCast, BitVec.toNat_xor, BitVec.toNat_ofNat, BitVec.toNat_ofNat, show (2 : Nat) ^ 8 = 256 from rfl, Nat.mod_eq_of_lt ha, Nat.mod_eq_of_lt hb, wrap_u8]
  omega
theorem and1_u32 {a : Nat} (ha : a < 4294967296) : bits .and .u32 (a : Int) 1 = ((a % 2 : Nat) : Int) := by
  show IntKind.u32.wrap (((BitVec.ofInt 32 (a : Int) &&& BitVec.ofInt 32 ((1 : Nat) : Int)).toNat : Nat) : Int) = _
  rw [BitVec.ofInt_natCast, BitVec.ofInt_natCast, BitVec.toNat_and, BitVec.toNat_ofNat, BitVec.toNat_ofNat, show (2 : Nat) ^ 32 = 4294967296 from rfl, Nat.mod_eq_of_lt ha, show (1 : Nat) % 4294967296 = 1 from rfl, Nat.and_one_is_mod, IntKind.wrap_u32]
  omega
theorem and1_u64 {a : Nat} (ha : a < 18446744073709551616) : bits .and .u64 (a : Int) 1 = ((a % 2 : Nat) : Int) := by
  show IntKind.u64.wrap (((BitVec.ofInt 64 (a : Int) &&& BitVec.ofInt 64 ((1 : Nat) : Int)).toNat : Nat) : Int) = _
  rw [BitVec.ofInt_natCast, BitVec.ofInt_natCast, BitVec.toNat_and, BitVec.toNat_ofNat, BitVec.toNat_ofNat, show (2 : Nat) ^ 64 = 18446744073709551616 from rfl, Nat.mod_eq_of_lt ha, show (1 : Nat) % 18446744073709551616 = 1 from rfl, Nat.and_one_is_mod, IntKind.wrap_u64]
  omega
theorem and127_u8 {a : Nat} (ha : a < 256) : bits .and .u8 (a : Int) 127 = ((a % 128 : Nat) : Int) := by
  have key : ∀ b : Nat, b < 256 → bits .and .u8 ((b : Nat) : Int) 127 = ((b % 128 : Nat) : Int) := by decide +kernel
  exact key a ha
theorem or128_u8 {a : Nat} (ha : a < 256) : bits .or .u8 (a : Int) 128 = ((a % 128 + 128 : Nat) : Int) := by
  have key : ∀ b : Nat, b < 256 → bits .or .u8 ((b : Nat) : Int) 128 = ((b % 128 + 128 : Nat) : Int) := by decide +kernel
  exact key a ha
theorem xor_u64 {a b : Nat} (ha : a < 18446744073709551616) (hb : b < 18446744073709551616) : bits .xor .u64 (a : Int) (b : Int) = ((a ^^^ b : Nat) : Int) := by
  have hx : a ^^^ b < 18446744073709551616 := Nat.xor_lt_two_pow (n := 64) ha hb
  show IntKind.u64.wrap (((BitVec.ofInt 64 (a : Int) ^^^ BitVec.ofInt 64 (b : Int)).toNat : Nat) : Int) = _
  rw [BitVec.ofInt_natCast, BitVec.ofInt_natCast, BitVec.toNat_xor, BitVec.toNat_ofNat, BitVec.toNat_ofNat, show (2 : Nat) ^ 64 = 18446744073709551616 from rfl, Nat.mod_eq_of_lt ha, Nat.mod_eq_of_lt hb, IntKind.wrap_u64]
  omega
theorem nxor_ones (a : Nat) (ha : a < 18446744073709551616) : a ^^^ 18446744073709551615 = 18446744073709551615 - a := by
  apply Nat.eq_of_testBit_eq
  intro i
  have h1 : (18446744073709551615 : Nat) = 2 ^ 64 - 1 := rfl
  rw [Nat.testBit_xor, h1, Nat.testBit_two_pow_sub_one, show 2 ^ 64 - 1 - a = 2 ^ 64 - (a + 1) by omega, Nat.testBit_two_pow_sub_succ (by simpa using ha)]
  rcases Nat.lt_or_ge i 64 with h | h
  · simp [h]
  · have : a.testBit i = false := Nat.testBit_lt_two_pow (Nat.lt_of_lt_of_le (by simpa using ha) (Nat.pow_le_pow_right (by omega) h))
    simp [this]
theorem fold_pos {n : Int} (h0 : 0 ≤ n) (h1 : n ≤ 9223372036854775807) : bits .xor .u64 (IntKind.u64.wrap (IntKind.u64.wrap n * 2)) (IntKind.u64.wrap (n / 9223372036854775808)) = 2 * n := by
  obtain ⟨a, rfl⟩ := Int.eq_ofNat_of_zero_le h0
  rw [IntKind.wrap_u64, IntKind.wrap_u64, IntKind.wrap_u64]
  have e1 : ((a : Int) % 18446744073709551616 * 2) % 18446744073709551616 = ((2 * a : Nat) : Int) := by omega
  have e2 : ((a : Int) / 9223372036854775808) % 18446744073709551616 = ((0 : Nat) : Int) := by omega
  rw [e1, e2, xor_u64 (by omega) (by omega), Nat.xor_zero]
  omega
theorem fold_neg {n : Int} (h0 : n < 0) (h1 : -9223372036854775808 ≤ n) : bits .xor .u64 (IntKind.u64.wrap (IntKind.u64.wrap n * 2)) (IntKind.u64.wrap (n / 9223372036854775808)) = -2 * n - 1 := by
  obtain ⟨a, ha⟩ := Int.eq_ofNat_of_zero_le (show 0 ≤ -n by omega)
  rw [IntKind.wrap_u64, IntKind.wrap_u64, IntKind.wrap_u64]
  have e1 : (n % 18446744073709551616 * 2) % 18446744073709551616 = ((18446744073709551616 - 2 * a : Nat) : Int) := by omega
  have e2 : (n / 9223372036854775808) % 18446744073709551616 = ((18446744073709551615 : Nat) : Int) := by omega
  rw [e1, e2, xor_u64 (by omega) (by omega), nxor_ones _ (by omega)]
  omega
theorem unfold_even {a : Nat} (h : a ≤ 9223372036854775807) : bits .xor .i64 (a : Int) 0 = (a : Int) := by
  show IntKind.i64.wrap (((BitVec.ofInt 64 (a : Int) ^^^ BitVec.ofInt 64 0).toNat : Nat) : Int) = _
  rw [BitVec.ofInt_natCast, show BitVec.ofInt 64 0 = 0#64 from rfl, BitVec.xor_zero, BitVec.toNat_ofNat, Nat.mod_eq_of_lt (by omega)]
  exact IntWalk.i64_in _ (by omega)
theorem unfold_odd {a : Nat} (h : a ≤ 9223372036854775807) : bits .xor .i64 (a : Int) (-1) = -(a : Int) - 1 := by
  show IntKind.i64.wrap (((BitVec.ofInt 64 (a : Int) ^^^ BitVec.ofInt 64 (-1)).toNat : Nat) : Int) = _
  rw [BitVec.ofInt_natCast, show BitVec.ofInt 64 (-1) = 18446744073709551615#64 from rfl, BitVec.toNat_xor, BitVec.toNat_ofNat, BitVec.toNat_ofNat, Nat.mod_eq_of_lt (show a < 2 ^ 64 by omega), show (18446744073709551615 : Nat) % 2 ^ 64 = 18446744073709551615 from rfl, nxor_ones _ (by omega)]
  simp [IntKind.wrap, IntKind.bits, IntKind.signed]
  omega
theorem or_u64 {a : Nat} {x i : Nat} (hi : i ≤ 63) (ha : a < 2 ^ i) (hx : x % 2 ^ i = 0) (hx1 : x < 18446744073709551616) : bits .or .u64 (a : Int) (x : Int) = ((a + x : Nat) : Int) := by
  obtain ⟨y, rfl⟩ : ∃ y, x = 2 ^ i * y := ⟨x / 2 ^ i, by have := Nat.mod_add_div x (2 ^ i); omega⟩
  have hp : 2 ^ i ≤ 2 ^ 63 := Nat.pow_le_pow_right (by omega) hi
  have e : a ||| 2 ^ i * y = a + 2 ^ i * y := by
    rw [Nat.or_comm, Nat.add_comm, Nat.two_pow_add_eq_or_of_lt ha]
  have hlt : a ||| 2 ^ i * y < 18446744073709551616 := Nat.or_lt_two_pow (n := 64) (by omega) hx1
  show IntKind.u64.wrap (((BitVec.ofInt 64 (a : Int) ||| BitVec.ofInt 64 ((2 ^ i * y : Nat) : Int)).toNat : Nat) : Int) = _
  rw [BitVec.ofInt_natCast, BitVec.ofInt_natCast, BitVec.toNat_or, BitVec.toNat_ofNat, BitVec.toNat_ofNat, show (2 : Nat) ^ 64 = 18446744073709551616 from rfl, Nat.mod_eq_of_lt (show a < 18446744073709551616 by omega), Nat.mod_eq_of_lt hx1, IntKind.wrap_u64]
  omega
theorem nxor32 (a : Nat) (ha : a < 4294967296) : a ^^^ 4294967295 = 4294967295 - a := by
  apply Nat.eq_of_testBit_eq
  intro i
  have h1 : (4294967295 : Nat) = 2 ^ 32 - 1 := rfl
  rw [Nat.testBit_xor, h1, Nat.testBit_two_pow_sub_one, show 2 ^ 32 - 1 - a = 2 ^ 32 - (a + 1) by omega, Nat.testBit_two_pow_sub_succ (by simpa using ha)]
  rcases Nat.lt_or_ge i 32 with h | h
  · simp [h]
  · have : a.testBit i = false := Nat.testBit_lt_two_pow (Nat.lt_of_lt_of_le (by simpa using ha) (Nat.pow_le_pow_right (by omega) h))
    simp [this]
theorem not_u32 {r : Nat} (h : r < 4294967296) : bits .xor .u32 IntKind.u32.max (r : Int) = ((4294967295 - r : Nat) : Int) := by
  rw [show IntKind.u32.max = ((4294967295 : Nat) : Int) by decide, xor_u32 (by omega) h, Nat.xor_comm, nxor32 r h]
end Go.Proofs.YtpbnabibnkohdaaGreatDoor.Bm
namespace Go.Proofs.YtpbnabibnkohdaaGreatDoor.Cd
set_option linter.unusedVariables false
/-- the folded number, and back -/
def fld (n : Int) : Nat := if 0 ≤ n then (2 * n).toNat else (-2 * n - 1).toNat
def unf (u : Nat) : Int := if u % 2 = 0 then ((u / 2 : Nat) : Int) else -((u / 2 : Nat) : Int) - 1
theorem unf_fld (n : Int) : unf (fld n) = n := by unfold unf fld; split <;> split <;> omega
theorem fld_lt {n : Int} (h0 : -9223372036854775808 ≤ n) (h1 : n ≤ 9223372036854775807) : fld n < 18446744073709551616 := by unfold fld; split <;> omega
/-- the encoding of a folded number, with room for f bytes ahead of the last one -/
def enc : Nat → Nat → List Nat
  | 0, u => [u]
  | f + 1, u => if u < 128 then [u] else (u % 128 + 128) :: enc f (u / 128)
def bytesOf (n : Int) : List Nat := enc 9 (fld n)
theorem enc_small (f : Nat) {u : Nat} (h : u < 128) : enc f u = [u] := by cases f <;> simp [enc, h]
theorem enc_great (f : Nat) {u : Nat} (h : 128 ≤ u) : enc (f + 1) u = (u % 128 + 128) :: enc f (u / 128) := by rw [enc, if_neg (by omega)]
theorem enc_len (f : Nat) : ∀ u, 1 ≤ (enc f u).length ∧ (enc f u).length ≤ f + 1 := by
  induction f with
  | zero => intro u; simp [enc]
  | succ f ih =>
    intro u
    rcases Nat.lt_or_ge u 128 with h | h
    · rw [enc_small _ h]; simp
    · rw [enc_great _ h, List.length_cons]; have := ih (u / 128); omega
/-- the greatest folded number of f bytes and the last one -/
def room : Nat → Nat
  | 0 => 2
  | f + 1 => 128 * room f
theorem enc_byte (f : Nat) : ∀ u, u < room f → ∀ c ∈ enc f u, c < 256 := by
  induction f with
  | zero => intro u hu c hc; simp [enc] at hc; simp [room] at hu; omega
  | succ f ih =>
    intro u hu c hc
    simp [room] at hu
    rcases Nat.lt_or_ge u 128 with h | h
    · rw [enc_small _ h] at hc; simp at hc; omega
    · rw [enc_great _ h] at hc
      rcases List.mem_cons.1 hc with h1 | h1
      · omega
      · exact ih (u / 128) (by omega) c h1
theorem room_nine : room 9 = 18446744073709551616 := by decide
theorem enc_mono (f : Nat) : ∀ u v, u ≤ v → (enc f u).length ≤ (enc f v).length := by
  induction f with
  | zero => intro u v _; simp [enc]
  | succ f ih =>
    intro u v h
    rcases Nat.lt_or_ge u 128 with hu | hu
    · rw [enc_small _ hu]; simpa using (enc_len (f + 1) v).1
    · rw [enc_great _ hu, enc_great _ (by omega)]
      simpa using ih (u / 128) (v / 128) (by omega)
/-- what Int does from byte i of the encoding on, u being what the bytes ahead of it say -/
def decGo (B : List Nat) (at_ : Nat) : Nat → Nat → Nat → Int × Int × Int
  | 0, _, _ => (0, 0, 3)
  | f + 1, i, u =>
    if at_ + i = B.length then (0, 0, 2)
    else if 127 < B.getD (at_ + i) 0 then decGo B at_ f (i + 1) (u + B.getD (at_ + i) 0 % 128 * 128 ^ i % 18446744073709551616)
    else if (i = 9 ∧ 1 < B.getD (at_ + i) 0) ∨ (0 < i ∧ B.getD (at_ + i) 0 = 0) then (0, 0, 3)
    else (unf (u + B.getD (at_ + i) 0 % 128 * 128 ^ i % 18446744073709551616), ((at_ + i + 1 : Nat) : Int), 0)
def dec (B : List Nat) (at_ : Nat) : Int × Int × Int := decGo B at_ 10 0 0
theorem getD_drop {B L : List Nat} {k : Nat} {c : Nat} (h : B.drop k = c :: L) : k < B.length ∧ B.getD k 0 = c ∧ B.drop (k + 1) = L := by
  have hk : k < B.length := by
    rcases Nat.lt_or_ge k B.length with h1 | h1
    · exact h1
    · rw [List.drop_eq_nil_of_le h1] at h; cases h
  rw [List.drop_eq_getElem_cons hk] at h
  injection h with h1 h2
  exact ⟨hk, by rw [List.getD_eq_getElem?_getD, List.getElem?_eq_getElem hk]; exact h1, h2⟩
theorem pow_room (f i : Nat) (h : f + i = 9) : room f * 128 ^ i = 18446744073709551616 := by
  have : i = 9 - f := by omega
  subst this
  have hf : f ≤ 9 := by omega
  revert hf
  match f with
  | 0 => decide
  | 1 => decide
  | 2 => decide
  | 3 => decide
  | 4 => decide
  | 5 => decide
  | 6 => decide
  | 7 => decide
  | 8 => decide
  | 9 => decide
  | _ + 10 => intro h; omega
theorem small_mul {v f i : Nat} (h : f + i = 9) (hv : v < room f) : v * 128 ^ i < 18446744073709551616 := by
  rw [← pow_room f i h]
  exact Nat.mul_lt_mul_of_pos_right hv (Nat.pow_pos (by omega))
/-- the encoding of v is read, whatever stands behind it -/
theorem dec_enc (B rest : List Nat) (at_ : Nat) (f : Nat) : ∀ (i u v : Nat), f + i = 9 → v < room f → (0 < i → 0 < v) → B.drop (at_ + i) = enc f v ++ rest →
    decGo B at_ (f + 1) i u = (unf (u + v * 128 ^ i), ((at_ + i + (enc f v).length : Nat) : Int), 0) := by
  induction f with
  | zero =>
    intro i u v hi hv hp hb
    obtain ⟨h1, h2, h3⟩ := getD_drop (L := rest) (c := v) (by simpa [enc] using hb)
    have hs := small_mul hi hv
    simp [room] at hv
    rw [decGo, if_neg (by omega), h2, if_neg (by omega), if_neg (by have := hp; omega), Nat.mod_eq_of_lt (show v < 128 by omega), Nat.mod_eq_of_lt hs]
    simp [enc]
  | succ f ih =>
    intro i u v hi hv hp hb
    have hs := small_mul hi hv
    rcases Nat.lt_or_ge v 128 with h | h
    · rw [enc_small _ h] at hb ⊢
      obtain ⟨h1, h2, h3⟩ := getD_drop (L := rest) (c := v) (by simpa using hb)
      rw [decGo, if_neg (by omega), h2, if_neg (by omega), if_neg (by have := hp; omega), Nat.mod_eq_of_lt (show v < 128 by omega), Nat.mod_eq_of_lt hs]
      simp
    · rw [enc_great _ h] at hb ⊢
      obtain ⟨h1, h2, h3⟩ := getD_drop (L := enc f (v / 128) ++ rest) (c := v % 128 + 128) (by simpa using hb)
      rw [decGo, if_neg (by omega), h2, if_pos (by omega)]
      have e1 : (v % 128 + 128) % 128 = v % 128 := by omega
      have e2 : v % 128 * 128 ^ i < 18446744073709551616 := by
        have : v % 128 * 128 ^ i ≤ v * 128 ^ i := Nat.mul_le_mul_right _ (Nat.mod_le _ _)
        omega
      rw [e1, Nat.mod_eq_of_lt e2, ih (i + 1) _ (v / 128) (by omega) (by simp [room] at hv; omega) (by intro _; omega) (by rw [← Nat.add_assoc]; exact h3)]
      have e3 : u + v % 128 * 128 ^ i + v / 128 * 128 ^ (i + 1) = u + v * 128 ^ i := by
        have : v * 128 ^ i = (v % 128 + 128 * (v / 128)) * 128 ^ i := by rw [Nat.mod_add_div]
        rw [this, Nat.pow_succ]
        grind
      rw [e3, List.length_cons]
      congr 2
      congr 1
      omega
/-- a beginning of the encoding is too short -/
theorem dec_short (B : List Nat) (at_ : Nat) (f : Nat) : ∀ (i u v j : Nat), j < (enc f v).length → at_ + i ≤ B.length → B.drop (at_ + i) = (enc f v).take j → decGo B at_ (f + 1) i u = (0, 0, 2) := by
  induction f with
  | zero =>
    intro i u v j hj hl hb
    have : j = 0 := by simp [enc] at hj; omega
    subst this
    have : B.length ≤ at_ + i := by simpa using hb
    rw [decGo, if_pos (by omega)]
  | succ f ih =>
    intro i u v j hj hl hb
    rcases Nat.eq_zero_or_pos j with h0 | h0
    · subst h0
      have : B.length ≤ at_ + i := by simpa using hb
      rw [decGo, if_pos (by omega)]
    · rcases Nat.lt_or_ge v 128 with h | h
      · rw [enc_small _ h] at hj; simp at hj; omega
      · rw [enc_great _ h] at hb hj
        obtain ⟨k, rfl⟩ : ∃ k, j = k + 1 := ⟨j - 1, by omega⟩
        rw [List.take_succ_cons] at hb
        obtain ⟨h1, h2, h3⟩ := getD_drop hb
        rw [decGo, if_neg (by omega), h2, if_pos (by omega)]
        exact ih (i + 1) _ (v / 128) k (by simpa using hj) (by omega) (by rw [← Nat.add_assoc]; exact h3)
theorem dec_bytes {B rest : List Nat} {at_ : Nat} {n : Int} (h0 : -9223372036854775808 ≤ n) (h1 : n ≤ 9223372036854775807) (hb : B.drop at_ = bytesOf n ++ rest) :
    dec B at_ = (n, ((at_ + (bytesOf n).length : Nat) : Int), 0) := by
  have := dec_enc B rest at_ 9 0 0 (fld n) rfl (by rw [room_nine]; exact fld_lt h0 h1) (by omega) (by simpa [bytesOf] using hb)
  unfold dec
  rw [this]
  simp [unf_fld, bytesOf]
theorem dec_cut {B : List Nat} {at_ j : Nat} {n : Int} (hl : at_ ≤ B.length) (hj : j < (bytesOf n).length) (hb : B.drop at_ = (bytesOf n).take j) : dec B at_ = (0, 0, 2) :=
  dec_short B at_ 9 0 0 (fld n) j hj (by simpa using hl) (by simpa [bytesOf] using hb)
end Go.Proofs.YtpbnabibnkohdaaGreatDoor.Cd
namespace Go.Proofs.YtpbnabibnkohdaaGreatDoor.Cd
open Go.ChangeShapes Go.WideShapes Go.RowKit Wo Bm
set_option linter.unusedVariables false
theorem fold_any (n : Int) (h0 : -9223372036854775808 ≤ n) (h1 : n ≤ 9223372036854775807) (w : World) :
    Calls Tryz.prog 124 #[.int .i64 n] w fun e w' => e = .returned (.int .u64 (fld n : Int)) ∧ w = w' := by
  have HF : Hid (bits .xor .u64 (IntKind.u64.wrap (IntKind.u64.wrap n * 2)) (IntKind.u64.wrap (n / 9223372036854775808)) = (fld n : Int)) := by
    show bits _ _ _ _ = _
    rcases Int.lt_or_le n 0 with h | h
    · rw [fold_neg h h0]; unfold fld; rw [if_neg (by omega)]; omega
    · rw [fold_pos h h1]; unfold fld; rw [if_pos h]; omega
  go_enter Tryz.func124, Tryz.ntmps124
  go_wp2
  go_ret
  exact ⟨ret_int HF.out, rfl⟩
theorem unfold_any (u : Nat) (h1 : u < 18446744073709551616) (w : World) :
    Calls Tryz.prog 152 #[.int .u64 (u : Int)] w fun e w' => e = .returned (.int .i64 (unf u)) ∧ w = w' := by
  have HA := Lib.hid (and1_u64 h1)
  go_enter Tryz.func152, Tryz.ntmps152
  go_wp2
  go_ret
  refine ⟨ret_int ?_, rfl⟩
  rw [HA.out, show (u : Int) / 2 = ((u / 2 : Nat) : Int) by omega]
  unfold unf
  rcases Nat.mod_two_eq_zero_or_one u with h | h
  · rw [h, if_pos rfl, show wrap64 (-wrap64 ((0 : Nat) : Int)) = 0 by decide +kernel]
    exact unfold_even (a := u / 2) (by omega)
  · rw [h, if_neg (by decide), show wrap64 (-wrap64 ((1 : Nat) : Int)) = -1 by decide +kernel]
    exact unfold_odd (a := u / 2) (by omega)
end Go.Proofs.YtpbnabibnkohdaaGreatDoor.Cd
namespace Go.Proofs.YtpbnabibnkohdaaGreatDoor.Cd
open Go.ChangeShapes Go.WideShapes Go.RowKit Wo Bm By
set_option linter.unusedVariables false
theorem info_u8 : (Tryz.prog.info? 5).map (fun i => (i.zero, i.size, i.bytes)) = some (some (.int .u8 0), 1, 1) := by kernel_rfl
theorem size_u8 : (Tryz.prog.info? 5).map (·.size) = some 1 := by kernel_rfl
def SomePut (B : List Nat) (n : Int) (w : World) (e : Ending) (w' : World) : Prop := ∃ h : Nat, e = .returned (.slice (some ⟨h, 0, none⟩) (B.length + (bytesOf n).length) (B.length + 10)) ∧
  w'.ownsRow w.heap.size 5 1 (.slice (some ⟨h, 0, none⟩) (B.length + (bytesOf n).length) (B.length + 10)) (B.length + (bytesOf n).length) (bys (B ++ bytesOf n)) ∧ Bel w w'
/-- the loop's relation: some bytes have been written, u is what is left -/
def PRel (B : List Nat) (n : Int) (h : Nat) (w : World) (s5 s6 : Value) (wr : World) : Prop := ∃ (k u : Nat) (L : List Nat), k ≤ 9 ∧ L.length = k ∧ L ++ enc (9 - k) u = bytesOf n ∧ u < room (9 - k) ∧ s6 = .int .u64 (u : Int) ∧
  s5 = .slice (some ⟨h, 0, none⟩) (B.length + k) (B.length + 10) ∧ wr.ownsRow w.heap.size 5 1 (.slice (some ⟨h, 0, none⟩) (B.length + k) (B.length + 10)) (B.length + k) (bys (B ++ L)) ∧ Bel w wr
theorem room_le : ∀ f, f ≤ 9 → room f ≤ 18446744073709551616 ∧ (f = 0 → room f = 2) := by decide
theorem low7 (u : Nat) : bits .or .u8 (IntKind.u8.wrap (u : Int)) 128 = ((u % 128 + 128 : Nat) : Int) := by
  rw [wrap_u8, show ((u : Int) % 256) = ((u % 256 : Nat) : Int) by omega, or128_u8 (by omega)]
  omega
set_option maxHeartbeats 8000000 in
set_option maxRecDepth 100000 in
theorem put_any (A : Option Addr) (c : Nat) (B : List Nat) (n : Int) (h0 : -9223372036854775808 ≤ n) (h1 : n ≤ 9223372036854775807) (hB : B.length ≤ 140737488355000) (w : World) (hr : Rd w A B.length B) :
    Calls Tryz.prog 97 #[.slice A B.length c, .int .i64 n] w (SomePut B n w) := by
  obtain ⟨i0, hi0, hz0, hz1, hz2⟩ := info_parts info_u8
  have HF := Lib.hid (fun w => fold_any n h0 h1 w)
  have HI := Lib.hid (And.intro hi0 (And.intro hz0 (And.intro hz1 hz2)))
  have HR := Lib.hid hr
  have bl : (B.length : Int) ≤ 140737488355000 := by omega
  clear hi0 hz0 hz1 hz2 hr
  have HP : Hid (0 < (bys B).length → (some ⟨w.heap.size, 0, none⟩ : Option Addr) = some ⟨w.heap.size, 0, none⟩ ∧ ∃ ad, A = some ad ∧ ∀ j v, (bys B)[j]? = some v → (w.alloc (.cells (bys (List.replicate (B.length + 10) 0)).toArray 5)).cell? (ad.add j) = some v) := by
    show _ → _
    intro hp
    refine ⟨rfl, ?_⟩
    obtain ⟨ad, e, hb, hc⟩ := HR.out.2.2 (by simpa [bys_len] using hp)
    refine ⟨ad, e, fun j v hv => ?_⟩
    have hj : j < B.length := by
      rcases Nat.lt_or_ge j B.length with h | h
      · exact h
      · rw [List.getElem?_eq_none (by rw [bys_len]; exact h)] at hv; cases hv
    rw [bys_at hj] at hv
    cases hv
    exact kp_al (hc j hj) _
  have HH : Hid ((w.alloc (.cells (bys (List.replicate (B.length + 10) 0)).toArray 5)).heap[w.heap.size]? = some (.cells (bys (List.replicate (B.length + 10) 0)).toArray 5)) := heap_alloc_new w _
  have HL : Hid ((bys B).length = Nat.min B.length B.length) := by show _ = _; simp [bys_len]
  have HL2 : Hid (0 + (bys B).length ≤ (bys (List.replicate (B.length + 10) 0)).length) := by show _ ≤ _; simp [bys_len]
  have HBE : Hid (Below w.heap.size w (w.alloc (.cells (bys (List.replicate (B.length + 10) 0)).toArray 5))) := (Bel.rf.al _).bl
  go_enter Tryz.func97, Tryz.ntmps97
  go_upto_region 2 with (refine wpList_make_any _ rfl (.tmp 8) (.tmp 11) 112 rfl 5 i0 (.int .u8 0) 1 Tryz.underlying112 HI.out.1 HI.out.2.1 HI.out.2.2.1 .i64 .i64 _ _ B.length (B.length + 10) rfl rfl rfl (by omega) (by omega) (by rw [HI.out.2.2.2]; omega) (by omega) ?_; rw [made_u8])
  go_wp2_with (first
    | (refine wpList_copy_splice rfl (.tmp 13) (.tmp 14) 112 112 rfl 5 Tryz.underlying112 size_u8 (some ⟨w.heap.size, 0, none⟩) A B.length (B.length + 10) B.length c rfl rfl w.heap.size 0 (bys (List.replicate (B.length + 10) 0)) 5 HH.out (bys B) HL.out HP.out HL2.out bys_one w.heap.size w HBE.out (Nat.le_refl _) ?_; intro w2 HG2 hB2)
    | (go_at_call 124; refine (HF.out _).mono ?_; rintro e w' ⟨rfl, rfl⟩))
  have HS : Hid (PRel B n w.heap.size w (.slice (some ⟨w.heap.size, 0, none⟩) B.length (B.length + 10)) (.int .u64 (fld n : Int)) w2) := by
    refine ⟨0, fld n, [], by omega, rfl, rfl, by rw [room_nine]; exact fld_lt h0 h1, rfl, rfl, ⟨by simp [bys_len], .inr ⟨_, _, _, rfl, Nat.le_refl _, HG2.out, by omega, by unfold maxLen; omega, ?_, ?_⟩⟩, hB2⟩
    · simp [splice, bys_len]
    · simp [splice, bys_len]
  clear HG2 hB2 HP HH HL HL2 HBE HR HF
  go_loopw [5, 6] (fun s5 s6 wr => PRel B n w.heap.size w s5 s6 wr) (fun _ s6 _ => (intOf s6).toNat)
  case atStart => exact HS.out
  case round =>
    clear HS
    obtain ⟨k, u, L, hk, hL, hE, hu, rfl, rfl, hown, hb⟩ := hrel
    rename_i wr
    have HO := Lib.hid hown
    have HB := Lib.hid hb
    have HE := Lib.hid hE
    have HLL := Lib.hid hL
    rcases Nat.lt_or_ge 127 u with hg | hg
    · have hk9 : k < 9 := by
        rcases Nat.lt_or_ge k 9 with h | h
        · exact h
        · have := (room_le (9 - k) (by omega)).2 (by omega); omega
      obtain ⟨f, hf⟩ : ∃ f, 9 - k = f + 1 := ⟨8 - k, by omega⟩
      have hE2 : L ++ [u % 128 + 128] ++ enc f (u / 128) = bytesOf n := by
        have := HE.out
        rw [hf, enc_great f (by omega)] at this
        simpa using this
      have hu2 : u / 128 < room f := by rw [hf] at hu; simp [room] at hu; omega
      obtain ⟨x, hx⟩ : ∃ x, u % 128 + 128 = x := ⟨_, rfl⟩
      have e1 : bits .or .u8 ((u : Int) % 256) 128 = (x : Int) := by rw [← wrap_u8, low7, hx]
      rw [hx] at hE2
      have HE2 := Lib.hid hE2
      have HU2 := Lib.hid hu2
      have HX := Lib.hid hx
      have HF9 := Lib.hid hf
      have gi : (127 : Int) < (u : Int) := by omega
      have HC : Hid (∀ j v, [Value.int .u8 (x : Int)][j]? = some v → (wr.alloc (.cells #[.int .u8 (x : Int)] 5)).cell? ((⟨wr.heap.size, 0, none⟩ : Addr).add j) = some v) := by
        intro j v hv
        rw [add_row, (Bk.nw wr _ _).cell j]
        simpa using hv
      clear hown hb hE hL hE2 hu2 hx hf hu
      go_wp2_with (first
        | (at_builtin; go_loud (refine wpList_append_fits _ rfl (.tmp 22) (.tmp 26) 112 rfl w.heap.size 5 i0 1 Tryz.underlying112 HI.out.1 HI.out.2.2.1 w.heap.size (B.length + k) (B.length + 10) (bys (B ++ L)) rfl (HO.out.alloc _) ⟨wr.heap.size, 0, none⟩ 1 1 [.int .u8 (x : Int)] rfl rfl HC.out (by intro v hv; simp at hv; subst hv; rfl) (by omega) ?_); intro w3 hown3 hg3))
      have HO3 := Lib.hid hown3
      have HG3 := Lib.hid hg3
      clear hown3 hg3 e1
      go_roundw
      case rel =>
        refine ⟨k + 1, u / 128, L ++ [x], by omega, by have := HLL.out; simp [this], ?_, ?_, by go_num, rfl, ?_, ?_⟩
        · have := HF9.out
          rw [show 9 - (k + 1) = f by omega, HE2.out]
        · have := HF9.out
          rw [show 9 - (k + 1) = f by omega]; exact HU2.out
        · have := HO3.out
          rw [show bys (B ++ (L ++ [x])) = bys (B ++ L) ++ [.int .u8 (x : Int)] by simp [bys]]
          exact this
        · exact Below.grown (Bel.al HB.out _).bl HG3.out (by simp; have := HB.out.size; omega) (fun b e => by cases e; exact Nat.le_refl _)
      case measure => simp [intOf]; omega
    · have hE2 : L ++ [u] = bytesOf n := by
        have := HE.out
        rwa [enc_small _ (by omega)] at this
      have HE2 := Lib.hid hE2
      have gi : (u : Int) ≤ 127 := by omega
      have gi0 : (0 : Int) ≤ (u : Int) := by omega
      have HC : Hid (∀ j v, [Value.int .u8 (u : Int)][j]? = some v → (wr.alloc (.cells #[.int .u8 (u : Int)] 5)).cell? ((⟨wr.heap.size, 0, none⟩ : Addr).add j) = some v) := by
        intro j v hv
        rw [add_row, (Bk.nw wr _ _).cell j]
        simpa using hv
      clear hown hb hE hL hE2 hu
      go_wp2_with (first
        | (at_builtin; refine wpList_append_fits _ rfl (.tmp 28) (.tmp 31) 112 rfl w.heap.size 5 i0 1 Tryz.underlying112 HI.out.1 HI.out.2.2.1 w.heap.size (B.length + k) (B.length + 10) (bys (B ++ L)) rfl (HO.out.alloc _) ⟨wr.heap.size, 0, none⟩ 1 1 [.int .u8 (u : Int)] rfl rfl HC.out (by intro v hv; simp at hv; subst hv; rfl) (by omega) ?_; intro w3 hown3 hg3))
      have HO3 := Lib.hid hown3
      have HG3 := Lib.hid hg3
      clear hown3 hg3
      go_ret
      have hln : (bytesOf n).length = k + 1 := by have := HLL.out; rw [← HE2.out]; simp [this]
      refine ⟨w.heap.size, by rw [hln]; rfl, ?_, ?_⟩
      · rw [hln]
        have := HO3.out
        rw [← HE2.out, show bys (B ++ (L ++ [u])) = bys (B ++ L) ++ [.int .u8 (u : Int)] by simp [bys]]
        exact this
      · exact Below.grown (Bel.al HB.out _).bl HG3.out (by simp; have := HB.out.size; omega) (fun b e => by cases e; exact Nat.le_refl _)
end Go.Proofs.YtpbnabibnkohdaaGreatDoor.Cd
namespace Go.Proofs.YtpbnabibnkohdaaGreatDoor.Pk
set_option linter.unusedVariables false
/-- byte j of the bits f ahead of place K -/
def pkb (f : Nat → Nat) (K j : Nat) : Nat → Nat
  | 0 => 0
  | t + 1 => pkb f K j t + (if 8 * j + t < K then f (8 * j + t) else 0) * 2 ^ t
def pk (f : Nat → Nat) (K j : Nat) : Nat := pkb f K j 8
theorem pkb_lt {f : Nat → Nat} (hf : ∀ k, f k < 2) (K j : Nat) : ∀ t, pkb f K j t < 2 ^ t
  | 0 => by simp [pkb]
  | t + 1 => by
    have ih := pkb_lt hf K j t
    have : (if 8 * j + t < K then f (8 * j + t) else 0) * 2 ^ t ≤ 1 * 2 ^ t := Nat.mul_le_mul_right _ (by split; have := hf (8 * j + t); omega; omega)
    rw [pkb, Nat.pow_succ]
    omega
theorem pk_lt {f : Nat → Nat} (hf : ∀ k, f k < 2) (K j : Nat) : pk f K j < 256 := pkb_lt hf K j 8
/-- places from t on that are not ahead of K count nothing -/
theorem pkb_stop {f : Nat → Nat} (K j : Nat) : ∀ (t : Nat), K ≤ 8 * j + t → ∀ d, pkb f K j (t + d) = pkb f K j t
  | t, h, 0 => rfl
  | t, h, d + 1 => by rw [← Nat.add_assoc, pkb, pkb_stop K j t h d, if_neg (by omega)]; simp
theorem pkb_same {f : Nat → Nat} (K j : Nat) : ∀ (t : Nat), 8 * j + t ≤ K → pkb f (K + 1) j t = pkb f K j t
  | 0, _ => rfl
  | t + 1, h => by rw [pkb, pkb, pkb_same K j t (by omega), if_pos (by omega), if_pos (by omega)]
/-- one more bit: its own byte grows, the others stay -/
theorem pk_step {f : Nat → Nat} (hf : ∀ k, f k < 2) (K : Nat) : pk f (K + 1) (K / 8) = pk f K (K / 8) + f K * 2 ^ (K % 8) ∧ pk f K (K / 8) < 2 ^ (K % 8) := by
  obtain ⟨j, t, hK, ht⟩ : ∃ j t, K = 8 * j + t ∧ t < 8 := ⟨K / 8, K % 8, by omega, by omega⟩
  have e1 : K / 8 = j := by omega
  have e2 : K % 8 = t := by omega
  rw [e1, e2]
  have a1 : pk f K j = pkb f K j t := by
    have := pkb_stop (f := f) K j t (by omega) (8 - t)
    rwa [show t + (8 - t) = 8 by omega] at this
  have a2 : pk f (K + 1) j = pkb f (K + 1) j (t + 1) := by
    have := pkb_stop (f := f) (K + 1) j (t + 1) (by omega) (8 - (t + 1))
    rwa [show t + 1 + (8 - (t + 1)) = 8 by omega] at this
  have a3 : pkb f (K + 1) j (t + 1) = pkb f K j t + f K * 2 ^ t := by
    rw [pkb, pkb_same K j t (by omega), if_pos (by omega), hK]
  exact ⟨by rw [a2, a3, a1], by rw [a1]; exact pkb_lt hf K j t⟩
theorem pkb_else {f : Nat → Nat} (K j : Nat) (h : j ≠ K / 8) : ∀ t, t ≤ 8 → pkb f (K + 1) j t = pkb f K j t
  | 0, _ => rfl
  | t + 1, ht => by
    rw [pkb, pkb, pkb_else K j h t (by omega)]
    congr 2
    have : (8 * j + t < K + 1) = (8 * j + t < K) := by
      apply propext
      constructor <;> intro _ <;> omega
    simp only [this]
theorem pk_else {f : Nat → Nat} (K j : Nat) (h : j ≠ K / 8) : pk f (K + 1) j = pk f K j := pkb_else K j h 8 (by omega)
theorem pk_zero (f : Nat → Nat) (j : Nat) : pk f 0 j = 0 := by simp [pk, pkb]
/-- the bits of a byte -/
theorem pkb_bit {f : Nat → Nat} (hf : ∀ k, f k < 2) (K j : Nat) : ∀ (t s : Nat), s < t → pkb f K j t / 2 ^ s % 2 = if 8 * j + s < K then f (8 * j + s) else 0
  | 0, s, h => by omega
  | t + 1, s, h => by
    rw [pkb]
    rcases Nat.lt_or_ge s t with h1 | h1
    · have ih := pkb_bit hf K j t s h1
      have e : (2 : Nat) ^ t = 2 ^ s * (2 * 2 ^ (t - s - 1)) := by
        rw [← Nat.pow_succ', ← Nat.pow_add]; congr 1; omega
      rw [e, show ∀ x : Nat, x * (2 ^ s * (2 * 2 ^ (t - s - 1))) = 2 ^ s * (2 * (x * 2 ^ (t - s - 1))) from fun x => by grind, Nat.add_mul_div_left _ _ (Nat.two_pow_pos s), Nat.add_mul_mod_self_left]
      exact ih
    · obtain rfl : s = t := by omega
      have hl := pkb_lt hf K j s
      rw [Nat.add_mul_div_right _ _ (Nat.two_pow_pos s), Nat.div_eq_of_lt hl, Nat.zero_add]
      have : (if 8 * j + s < K then f (8 * j + s) else 0) < 2 := by split; exact hf _; omega
      omega
theorem pk_bit {f : Nat → Nat} (hf : ∀ k, f k < 2) (K k : Nat) : pk f K (k / 8) / 2 ^ (k % 8) % 2 = if k < K then f k else 0 := by
  have := pkb_bit hf K (k / 8) 8 (k % 8) (by omega)
  rw [show 8 * (k / 8) + k % 8 = k by omega] at this
  exact this
/-- the bits of a list of numbers of a width -/
def fb (L : List Nat) (w k : Nat) : Nat := L.getD (k / w) 0 / 2 ^ (k % w) % 2
theorem fb_lt (L : List Nat) (w k : Nat) : fb L w k < 2 := Nat.mod_lt _ (by decide)
theorem fb_at {w j : Nat} (L : List Nat) (i : Nat) (hj : j < w) : fb L w (i * w + j) = L.getD i 0 / 2 ^ j % 2 := by
  unfold fb
  rw [show i * w + j = j + i * w by omega, Nat.add_mul_div_right _ _ (by omega), Nat.div_eq_of_lt hj, Nat.zero_add, Nat.add_mul_mod_self_right, Nat.mod_eq_of_lt hj]
/-- the bytes of a list packed as far as bit K -/
def bytesK (L : List Nat) (w n K : Nat) : List Nat := (List.range n).map (pk (fb L w) K)
def packed (L : List Nat) (w : Nat) : List Nat := bytesK L w ((L.length * w + 7) / 8) (L.length * w)
theorem bytesK_len (L : List Nat) (w n K : Nat) : (bytesK L w n K).length = n := by simp [bytesK]
theorem bytesK_at {L : List Nat} {w n K j : Nat} (h : j < n) : (bytesK L w n K).getD j 0 = pk (fb L w) K j := by simp [bytesK, List.getD_eq_getElem?_getD, h]
theorem bytesK_lt (L : List Nat) (w n K : Nat) : ∀ c ∈ bytesK L w n K, c < 256 := by
  intro c hc
  simp only [bytesK, List.mem_map] at hc
  obtain ⟨j, _, rfl⟩ := hc
  exact pk_lt (fb_lt L w) K j
theorem bytesK_step {L : List Nat} {w n K : Nat} (h : K / 8 < n) : (bytesK L w n K).set (K / 8) (pk (fb L w) K (K / 8) + fb L w K * 2 ^ (K % 8)) = bytesK L w n (K + 1) := by
  apply List.ext_getElem?
  intro i
  rw [List.getElem?_set, bytesK_len]
  rcases Classical.em (K / 8 = i) with hi | hi
  · subst hi
    simp [bytesK, h, (pk_step (fb_lt L w) K).1]
  · rw [if_neg hi]
    rcases Nat.lt_or_ge i n with hn | hn
    · simp [bytesK, hn, pk_else K i (fun e => hi e.symm)]
    · simp [bytesK, Nat.not_lt.2 hn]
theorem bytesK_zero (L : List Nat) (w n : Nat) : bytesK L w n 0 = List.replicate n 0 := by
  apply List.ext_getElem?
  intro i
  rcases Nat.lt_or_ge i n with hn | hn
  · simp [bytesK, hn, pk_zero]
  · simp [bytesK, Nat.not_lt.2 hn]
/-- the sum of the first t bits from place s on -/
def val (g : Nat → Nat) : Nat → Nat
  | 0 => 0
  | t + 1 => val g t + g t * 2 ^ t
theorem val_lt {g : Nat → Nat} (hg : ∀ k, g k < 2) : ∀ t, val g t < 2 ^ t
  | 0 => by simp [val]
  | t + 1 => by
    have ih := val_lt hg t
    have : g t * 2 ^ t ≤ 1 * 2 ^ t := Nat.mul_le_mul_right _ (by have := hg t; omega)
    rw [val, Nat.pow_succ]
    omega
theorem val_bits (n : Nat) : ∀ t, val (fun j => n / 2 ^ j % 2) t = n % 2 ^ t
  | 0 => by simp [val, Nat.mod_one]
  | t + 1 => by
    rw [val, val_bits n t, Nat.pow_succ, Nat.mod_mul]
    rw [Nat.mul_comm]
theorem val_full {n t : Nat} (h : n < 2 ^ t) : val (fun j => n / 2 ^ j % 2) t = n := by rw [val_bits, Nat.mod_eq_of_lt h]
theorem val_congr {g h : Nat → Nat} : ∀ t, (∀ j, j < t → g j = h j) → val g t = val h t
  | 0, _ => rfl
  | t + 1, e => by rw [val, val, val_congr t (fun j hj => e j (by omega)), e t (by omega)]
end Go.Proofs.YtpbnabibnkohdaaGreatDoor.Pk
namespace Go.Proofs.YtpbnabibnkohdaaGreatDoor.Cr
set_option linter.unusedVariables false
/-- one shift of the register -/
def step1 (n : Nat) : Nat := if n % 2 = 1 then (n / 2) ^^^ 3988292384 else n / 2
def tab (i : Nat) : Nat := step1 (step1 (step1 (step1 (step1 (step1 (step1 (step1 i)))))))
def stp (r c : Nat) : Nat := (r / 256) ^^^ tab ((r % 256) ^^^ c)
def reg (l : List Nat) : Nat := l.foldl stp 4294967295
def crc (l : List Nat) : Nat := 4294967295 - reg l
theorem step1_lt {n : Nat} (h : n < 4294967296) : step1 n < 4294967296 := by
  unfold step1
  split
  · exact Nat.xor_lt_two_pow (n := 32) (by omega) (by omega)
  · omega
theorem tab_lt {i : Nat} (h : i < 4294967296) : tab i < 4294967296 := by
  unfold tab
  exact step1_lt (step1_lt (step1_lt (step1_lt (step1_lt (step1_lt (step1_lt (step1_lt h)))))))
theorem idx_lt {r c : Nat} (hc : c < 256) : (r % 256) ^^^ c < 256 := Nat.xor_lt_two_pow (n := 8) (by omega) (by omega)
theorem stp_lt {r c : Nat} (hr : r < 4294967296) (hc : c < 256) : stp r c < 4294967296 := by
  unfold stp
  exact Nat.xor_lt_two_pow (n := 32) (by omega) (tab_lt (by have := idx_lt (r := r) hc; omega))
theorem fold_lt (l : List Nat) : ∀ (r : Nat), r < 4294967296 → (∀ c ∈ l, c < 256) → l.foldl stp r < 4294967296 := by
  induction l with
  | nil => intro r hr _; exact hr
  | cons c l ih =>
    intro r hr h
    exact ih _ (stp_lt hr (h c (by simp))) (fun x hx => h x (by simp [hx]))
theorem reg_lt {l : List Nat} (h : ∀ c ∈ l, c < 256) : reg l < 4294967296 := fold_lt l _ (by decide) h
theorem reg_snoc (l : List Nat) (c : Nat) : reg (l ++ [c]) = stp (reg l) c := by simp [reg, List.foldl_append]
/-- a shift turned back -/
def undo1 (n : Nat) : Nat := if 2147483648 ≤ n then ((n ^^^ 3988292384) * 2 + 1) % 4294967296 else n * 2 % 4294967296
def undo (t : Nat) : Nat := undo1 (undo1 (undo1 (undo1 (undo1 (undo1 (undo1 (undo1 (t * 16777216)))))))) % 256
theorem undo_tab : ∀ i, i < 256 → undo (tab i / 16777216) = i := by decide +kernel
theorem top_inj {i j : Nat} (hi : i < 256) (hj : j < 256) (h : tab i / 16777216 = tab j / 16777216) : i = j := by
  rw [← undo_tab i hi, ← undo_tab j hj, h]
theorem xor_top {a b : Nat} (ha : a < 16777216) : (a ^^^ b) / 16777216 = b / 16777216 := by
  have h := @Nat.shiftRight_xor_distrib 24 a b
  rw [Nat.shiftRight_eq_div_pow, Nat.shiftRight_eq_div_pow, Nat.shiftRight_eq_div_pow] at h
  rw [show (2 : Nat) ^ 24 = 16777216 from rfl] at h
  rw [h, Nat.div_eq_of_lt ha, Nat.zero_xor]
theorem xor_cancel {a b c : Nat} (h : a ^^^ c = b ^^^ c) : a = b := by
  have := congrArg (· ^^^ c) h
  simpa [Nat.xor_assoc] using this
theorem xor_cancel' {a b c : Nat} (h : c ^^^ a = c ^^^ b) : a = b := by
  rw [Nat.xor_comm c a, Nat.xor_comm c b] at h
  exact xor_cancel h
theorem stp_inj {r s c : Nat} (hr : r < 4294967296) (hs : s < 4294967296) (hc : c < 256) (h : stp r c = stp s c) : r = s := by
  unfold stp at h
  have ht := congrArg (· / 16777216) h
  simp only [xor_top (show r / 256 < 16777216 by omega), xor_top (show s / 256 < 16777216 by omega)] at ht
  have hi := top_inj (idx_lt hc) (idx_lt hc) ht
  rw [hi] at h
  have h1 := xor_cancel h
  have h2 := xor_cancel hi
  omega
theorem stp_byte {r c d : Nat} (hr : r < 4294967296) (hc : c < 256) (hd : d < 256) (h : stp r c = stp r d) : c = d := by
  unfold stp at h
  have h1 := xor_cancel' h
  exact xor_cancel' (top_inj (idx_lt hc) (idx_lt hd) (by rw [h1]))
theorem fold_inj (l : List Nat) : ∀ (r s : Nat), r < 4294967296 → s < 4294967296 → (∀ c ∈ l, c < 256) → l.foldl stp r = l.foldl stp s → r = s := by
  induction l with
  | nil => intro r s _ _ _ h; exact h
  | cons c l ih =>
    intro r s hr hs hl h
    have hc := hl c (by simp)
    exact stp_inj hr hs hc (ih _ _ (stp_lt hr hc) (stp_lt hs hc) (fun x hx => hl x (by simp [hx])) h)
/-- one byte that differs changes the sum -/
theorem crc_set {l : List Nat} {i d : Nat} (hl : ∀ c ∈ l, c < 256) (hi : i < l.length) (hd : d < 256) (hne : l[i] ≠ d) : crc (l.set i d) ≠ crc l := by
  have hs : ∀ c ∈ l.set i d, c < 256 := fun c hc => by
    rcases List.mem_or_eq_of_mem_set hc with h | h
    · exact hl c h
    · omega
  have e1 : l.set i d = l.take i ++ d :: l.drop (i + 1) := List.set_eq_take_append_cons_drop.trans (by simp [hi])
  have e2 : l = l.take i ++ l[i] :: l.drop (i + 1) := by
    rw [← List.drop_eq_getElem_cons hi, List.take_append_drop]
  intro h
  have r1 := reg_lt hs
  have r2 := reg_lt hl
  unfold crc at h
  have h2 : reg (l.set i d) = reg l := by omega
  rw [e1] at h2
  have h3 : reg (l.take i ++ d :: l.drop (i + 1)) = reg (l.take i ++ l[i] :: l.drop (i + 1)) := h2.trans (congrArg reg e2)
  unfold reg at h3
  rw [List.foldl_append, List.foldl_append, List.foldl_cons, List.foldl_cons] at h3
  have ht : ∀ c ∈ l.take i, c < 256 := fun c hc => hl c (List.mem_of_mem_take hc)
  have hr := fold_lt (l.take i) 4294967295 (by decide) ht
  have hli := hl l[i] (List.getElem_mem hi)
  have h4 := fold_inj _ _ _ (stp_lt hr hd) (stp_lt hr hli) (fun c hc => hl c (List.mem_of_mem_drop hc)) h3
  exact hne (stp_byte hr hd hli h4).symm
theorem crc_digits : crc [49, 50, 51, 52, 53, 54, 55, 56, 57] = 3421780262 := by decide +kernel
end Go.Proofs.YtpbnabibnkohdaaGreatDoor.Cr
namespace Go.Proofs.YtpbnabibnkohdaaGreatDoor.Pk
open Cd Cr
set_option linter.unusedVariables false
def seal4 (s : Nat) : List Nat := [s % 256, s / 256 % 256, s / 65536 % 256, s / 16777216 % 256]
def In64 (n : Int) : Prop := -9223372036854775808 ≤ n ∧ n ≤ 9223372036854775807
theorem bytes_inj {n m : Int} {r s : List Nat} (hn : In64 n) (hm : In64 m) (h : bytesOf n ++ r = bytesOf m ++ s) : n = m ∧ r = s := by
  have h1 := dec_bytes (B := bytesOf n ++ r) (rest := r) (at_ := 0) hn.1 hn.2 rfl
  have h2 := dec_bytes (B := bytesOf n ++ r) (rest := s) (at_ := 0) hm.1 hm.2 (by simpa using h)
  rw [h1] at h2
  have e : n = m := by injection h2
  subst e
  exact ⟨rfl, List.append_cancel_left h⟩
theorem bytesOf_byte {n : Int} (h : In64 n) : ∀ c ∈ bytesOf n, c < 256 := enc_byte 9 _ (by rw [room_nine]; exact fld_lt h.1 h.2)
theorem bytesOf_len (n : Int) : 1 ≤ (bytesOf n).length ∧ (bytesOf n).length ≤ 10 := enc_len 9 _
theorem seal4_byte (s : Nat) : ∀ c ∈ seal4 s, c < 256 := fun c hc => by simp [seal4] at hc; omega
theorem seal4_inj {s t : Nat} (hs : s < 4294967296) (ht : t < 4294967296) (h : seal4 s = seal4 t) : s = t := by
  unfold seal4 at h
  injection h with h1 h
  injection h with h2 h
  injection h with h3 h
  injection h with h4 h
  omega
theorem drop_at (B : List Nat) (p : Nat) (h : p < B.length) : B.drop p = B.getD p 0 :: B.drop (p + 1) := by
  rw [List.drop_eq_getElem_cons h, List.getD_eq_getElem?_getD, List.getElem?_eq_getElem h]; rfl
theorem getD_byte {B : List Nat} (hB : ∀ c ∈ B, c < 256) (p : Nat) : B.getD p 0 < 256 := by
  rw [List.getD_eq_getElem?_getD]
  rcases Nat.lt_or_ge p B.length with h | h
  · rw [List.getElem?_eq_getElem h]; exact hB _ (List.getElem_mem _)
  · rw [List.getElem?_eq_none h]; decide
theorem fld_unf (u : Nat) : fld (unf u) = u := by unfold fld unf; split <;> split <;> omega
theorem unf_in {u : Nat} (h : u < 18446744073709551616) : In64 (unf u) := by unfold In64 unf; split <;> omega
theorem room_pos (f : Nat) : 128 ≤ room (f + 1) := by
  induction f with
  | zero => decide
  | succ f ih => rw [room]; omega
theorem go_canon (B : List Nat) (hB : ∀ c ∈ B, c < 256) (at_ : Nat) (f : Nat) : ∀ (i u : Nat) (n k : Int), f + i = 9 → at_ + i ≤ B.length → decGo B at_ (f + 1) i u = (n, k, 0) →
    ∃ v j : Nat, v < room f ∧ (0 < i → 0 < v) ∧ n = unf (u + v * 128 ^ i) ∧ k = (j : Int) ∧ at_ + i < j ∧ j ≤ B.length ∧ B.drop (at_ + i) = enc f v ++ B.drop j := by
  induction f with
  | zero =>
    intro i u n k hfi hle h
    obtain rfl : i = 9 := by omega
    rw [decGo] at h
    split at h
    · simp at h
    · rename_i hne
      split at h
      · rw [decGo] at h; simp at h
      · split at h
        · simp at h
        · rename_i hc hnz
          have hc1 : B.getD (at_ + 9) 0 = 1 := by omega
          simp only [Prod.mk.injEq] at h
          obtain ⟨h1, h2, _⟩ := h
          refine ⟨1, at_ + 9 + 1, by decide, fun _ => by decide, ?_, h2.symm, by omega, by omega, ?_⟩
          · rw [← h1, hc1]
          · rw [drop_at B (at_ + 9) (by omega), hc1]; rfl
  | succ f ih =>
    intro i u n k hfi hle h
    rw [decGo] at h
    split at h
    · simp at h
    · rename_i hne
      have hb := getD_byte hB (at_ + i)
      have hd := drop_at B (at_ + i) (by omega)
      obtain ⟨c, hc⟩ : ∃ c, B.getD (at_ + i) 0 = c := ⟨_, rfl⟩
      rw [hc] at h hb hd
      split at h
      · rename_i h127
        obtain ⟨v, j, hv, hp, hn, hk, hj, hl, hdr⟩ := ih (i + 1) _ n k (by omega) (by omega) h
        have hv1 := hp (by omega)
        have hsm : c % 128 * 128 ^ i < 18446744073709551616 := small_mul (f := f + 1) (by omega) (Nat.lt_of_lt_of_le (Nat.mod_lt _ (by decide)) (room_pos f))
        have e1 : (c % 128 + 128 * v) % 128 = c % 128 := by omega
        have e2 : (c % 128 + 128 * v) / 128 = v := by omega
        refine ⟨c % 128 + 128 * v, j, by rw [room]; omega, fun _ => by omega, ?_, hk, by omega, hl, ?_⟩
        · rw [hn, Nat.mod_eq_of_lt hsm, Nat.pow_succ, Nat.add_mul]
          congr 1
          have : v * (128 ^ i * 128) = 128 * v * 128 ^ i := by rw [Nat.mul_comm (128 ^ i) 128, ← Nat.mul_assoc, Nat.mul_comm v 128]
          omega
        · rw [enc_great f (by omega), e1, e2, hd, Nat.add_assoc, hdr, List.cons_append]
          congr 1
          omega
      · split at h
        · simp at h
        · rename_i hc1 hnz
          simp only [Prod.mk.injEq] at h
          obtain ⟨h1, h2, _⟩ := h
          have hsm : c % 128 * 128 ^ i < 18446744073709551616 := small_mul (f := f + 1) (by omega) (Nat.lt_of_lt_of_le (Nat.mod_lt _ (by decide)) (room_pos f))
          have e1 : c % 128 = c := Nat.mod_eq_of_lt (by omega)
          refine ⟨c, at_ + i + 1, Nat.lt_of_lt_of_le (by omega) (room_pos f), fun _ => by omega, ?_, h2.symm, by omega, by omega, ?_⟩
          · rw [← h1, Nat.mod_eq_of_lt hsm, e1]
          · rw [enc_small _ (by omega), hd]; rfl
theorem dec_canon {B : List Nat} (hB : ∀ c ∈ B, c < 256) {at_ : Nat} (hle : at_ ≤ B.length) {n k : Int} (h : dec B at_ = (n, k, 0)) :
    In64 n ∧ ∃ j : Nat, k = (j : Int) ∧ at_ < j ∧ j ≤ B.length ∧ B.drop at_ = bytesOf n ++ B.drop j := by
  obtain ⟨v, j, hv, _, hn, hk, hj, hl, hd⟩ := go_canon B hB at_ 9 0 0 n k rfl hle h
  rw [room_nine] at hv
  have e : n = unf v := by rw [hn]; simp
  subst e
  refine ⟨unf_in hv, j, hk, by omega, hl, ?_⟩
  unfold bytesOf
  rw [fld_unf]
  exact hd
end Go.Proofs.YtpbnabibnkohdaaGreatDoor.Pk
namespace Go.Proofs.YtpbnabibnkohdaaGreatDoor.Sg
open Go.ChangeShapes Go.WideShapes Go.RowKit Wo Sr Wi
set_option linter.unusedVariables false
theorem mul64_one (k : Nat) (hk : k ≤ 1000) (w : World) : Calls Tryz.prog 127 #[.int .u64 1, .int .u64 (k : Int)] w fun e w' => e = .returned (.tuple #[.int .u64 0, .int .u64 (k : Int)]) ∧ w = w' := by
  have a1 : bits .and .u64 1 4294967295 = 1 := by decide
  have a2 : bits .and .u64 (k : Int) 4294967295 = (k : Int) := by
    have h := bits_and_u64_nat k 4294967295 (by omega) (by omega)
    have e : k &&& 4294967295 = k % 4294967296 := Nat.and_two_pow_sub_one_eq_mod k 32
    rw [e, Nat.mod_eq_of_lt (by omega)] at h
    exact h
  have a3 : bits .and .u64 0 4294967295 = 0 := by decide
  have ki : (k : Int) ≤ 1000 := by omega
  have w1 : (k : Int) / 4294967296 = 0 := by omega
  have w2 : (k : Int) % 18446744073709551616 = (k : Int) := by omega
  have w3 : IntKind.u64.wrap (k : Int) = (k : Int) := by rw [IntKind.wrap_u64]; omega
  have w4 : IntKind.u64.wrap 0 = 0 := by decide
  clear ki
  go_enter Tryz.func127, Tryz.ntmps127
  go_wp2
  go_ret2
  exact ⟨rfl, rfl⟩
theorem mul_one (k : Nat) (hk : k ≤ 1000) (w : World) : Calls Tryz.prog 99 #[.int .u64 1, .int .u64 (k : Int)] w fun e w' => e = .returned (.tuple #[.int .u64 0, .int .u64 (k : Int)]) ∧ w = w' := by
  go_enter Tryz.func99, Tryz.ntmps99
  go_wp2_with (go_at_call 127; refine (mul64_one k hk _).mono ?_; rintro e w2 ⟨rfl, rfl⟩)
  go_ret2
  exact ⟨rfl, rfl⟩
theorem splice_zs (Z Y : List Int) (n : Nat) : splice (zs Z) n (zs Y) = zs (splice Z n Y) := by
  simp [splice, zs]
theorem splice_rep {Z : List Int} {x : Int} {k n q : Nat} (hl : Z.length = k) (hq : n + q ≤ k) (hz : ∀ i, i < n → Z.getD i 0 = x) : (splice Z n (List.replicate q x)).length = k ∧ ∀ i, i < n + q → (splice Z n (List.replicate q x)).getD i 0 = x := by
  refine ⟨by rw [length_splice _ _ _ (by simp; omega)]; exact hl, fun i hi => ?_⟩
  unfold splice
  rw [List.getD_eq_getElem?_getD]
  rcases Nat.lt_or_ge i n with h | h
  · rw [List.getElem?_append_left (by simp; omega), List.getElem?_take_of_lt h, ← List.getD_eq_getElem?_getD]
    exact hz i h
  · rw [List.getElem?_append_right (by simp; omega), List.getElem?_append_left (by simp; omega)]
    have e : i - min n Z.length < q := by omega
    simp [e]
theorem all_rep {Z : List Int} {x : Int} {k : Nat} (hl : Z.length = k) (hz : ∀ i, i < k → Z.getD i 0 = x) : Z = List.replicate k x := by
  apply List.ext_getElem?
  intro i
  rcases Nat.lt_or_ge i k with h | h
  · have := hz i h
    rw [List.getD_eq_getElem?_getD, List.getElem?_eq_getElem (by omega)] at this
    rw [List.getElem?_eq_getElem (by omega), List.getElem?_replicate, if_pos h]
    exact congrArg some this
  · rw [List.getElem?_eq_none (by omega), List.getElem?_eq_none (by simpa using h)]
theorem size_int : (Tryz.prog.info? 3).map (·.size) = some 1 := by kernel_rfl
set_option maxRecDepth 100000 in
set_option maxHeartbeats 4000000 in
theorem repeat_ok (g : Nat) (x : Int) (k : Nat) (k1 : 1 ≤ k) (k2 : k ≤ 300) (w : World) (hc : w.cell? ⟨g, 0, none⟩ = some (.int .i64 x)) :
    Calls Tryz.prog 66 #[.slice (some ⟨g, 0, none⟩) 1 1, .int .i64 (k : Int)] w fun e w' => e = .returned (.slice (some ⟨w.heap.size, 0, none⟩) k k) ∧ Bk w' w.heap.size 3 (zs (List.replicate k x)).toArray ∧ Bel w w' := by
  have ki1 : 1 ≤ (k : Int) := by omega
  have ki2 : (k : Int) ≤ 300 := by omega
  have wk : IntKind.u64.wrap (k : Int) = (k : Int) := by rw [IntKind.wrap_u64]; omega
  have wk2 : wrap64 (k : Int) = (k : Int) := IntWalk.wrap64_in _ (by omega)
  have wk3 : IntKind.i64.wrap (k : Int) = (k : Int) := IntWalk.i64_in _ (by omega)
  obtain ⟨i0, hi0, hz0, hz1, hz2⟩ := info_parts info_int
  have HI := Lib.hid (And.intro hi0 (And.intro hz0 (And.intro hz1 hz2)))
  have HC := Lib.hid hc
  have hw := World.block_lt_of_cell? w _ hc
  have HNW := Lib.hid (Bk.nw w 3 (zs (List.replicate k 0)).toArray)
  have HCA : Hid ((w.alloc (.cells (zs (List.replicate k 0)).toArray 3)).cell? ⟨g, 0, none⟩ = some (.int .i64 x)) := kp_al hc _
  have HMIN : Hid ((zs [x]).length = Nat.min 1 k) := by show 1 = min 1 k; omega
  have HFT : Hid (0 + (zs [x]).length ≤ (zs (List.replicate k 0)).length) := by show 0 + 1 ≤ _; rw [zs_len, List.length_replicate]; omega
  have HSR0 : Hid (∀ j v, (zs [x])[j]? = some v → (w.alloc (.cells (zs (List.replicate k 0)).toArray 3)).cell? ((⟨g, 0, none⟩ : Addr).add j) = some v) := fun j v hv => by
    rcases j with _ | j
    · have hv2 : Value.int .i64 x = v := by simpa [zs] using hv
      rw [← hv2]; exact HCA.out
    · simp [zs] at hv
  clear hi0 hz0 hz1 hz2 hc hw
  go_enter Tryz.func66, Tryz.ntmps66
  go_wp2_with (first
    | (go_at_call 99; refine (mul_one k (by omega) _).mono ?_; rintro e w2 ⟨rfl, rfl⟩)
    | (refine wpList_make_any _ rfl (.tmp 29) (.tmp 29) 22 rfl 3 i0 (.int .i64 0) 1 Tryz.underlying22 HI.out.1 HI.out.2.1 HI.out.2.2.1 .i64 .i64 _ _ k k rfl rfl rfl rfl (by omega) (by rw [HI.out.2.2.2]; omega) (by omega) ?_; rw [made_i64])
    | (refine wpList_copy_splice rfl (.tmp 31) (.tmp 32) 22 22 rfl 3 Tryz.underlying22 size_int (some ⟨w.heap.size, 0, none⟩) (some ⟨g, 0, none⟩) k k 1 1 rfl rfl w.heap.size 0 (zs (List.replicate k 0)) 3 HNW.out (zs [x]) HMIN.out (fun _ => ⟨rfl, _, rfl, HSR0.out⟩) HFT.out (zs_one _) w.heap.size w (Bel.rf.al _) (Nat.le_refl _) ?_; intro w2 hg2 hb2))
  go_loopw [8] (fun s8 wr => ∃ (t : Nat) (V : World) (Z : List Int), V = wr ∧ 1 ≤ t ∧ t ≤ k ∧ s8 = .int .i64 (t : Int) ∧ Z.length = k ∧ (∀ i, i < t → Z.getD i 0 = x) ∧ Bk wr w.heap.size 3 (zs Z).toArray ∧ Bel w wr) (fun s8 _ => k - (intOf s8).toNat)
  case atStart =>
    rw [splice_zs] at hg2
    have h := splice_rep (Z := List.replicate k 0) (x := x) (k := k) (n := 0) (q := 1) (by simp) (by omega) (fun i hi => by omega)
    exact ⟨1, _, _, rfl, by omega, by omega, rfl, h.1, h.2, hg2.out, hb2⟩
  case round =>
    obtain ⟨t, wr, Z, hwr, ht1, htk, rfl, hlz, hzt, hk, hb⟩ := hrel
    subst hwr
    clear hg2 hb2 wk wk2 wk3
    have HK := Lib.hid hk
    have HB := Lib.hid hb
    have HZT := Lib.hid hzt
    have HLZ := Lib.hid hlz
    have hlt := hk.lt
    clear hk hb hzt hlz
    rcases Nat.lt_or_ge t k with h | h
    · obtain ⟨y, hy⟩ : ∃ y, Nat.min t (k - t) = y := ⟨_, rfl⟩
      have hy1 : y ≤ t ∧ y ≤ k - t ∧ 1 ≤ y := by rw [← hy]; show min t (k - t) ≤ t ∧ min t (k - t) ≤ k - t ∧ 1 ≤ min t (k - t); omega
      have hkt : ¬ k = t := by omega
      have hti : (t : Int) < (k : Int) := by omega
      have hti2 : (t : Int) ≤ (k : Int) := by omega
      have htl : t ≤ k := htk
      have HSR := Lib.hid (splice_rep HLZ.out (x := x) (n := t) (q := y) (by omega) HZT.out)
      have HY := Lib.hid (And.intro hy hy1)
      obtain ⟨z, hz⟩ : ∃ z, t + y = z := ⟨_, rfl⟩
      have hzi : (t : Int) + (y : Int) = (z : Int) := by omega
      have hzk : z ≤ k ∧ t < z := by omega
      have HZZ := Lib.hid (And.intro hz hzk)
      have HL1 : Hid ((zs (List.replicate y x)).length = Nat.min t (k - t)) := by show _ = _; rw [zs_len, List.length_replicate]; exact HY.out.1.symm
      have HL2 : Hid (t + (zs (List.replicate y x)).length ≤ (zs Z).length) := by show _ ≤ _; rw [zs_len, zs_len, List.length_replicate, HLZ.out]; have := HY.out; omega
      have hzl : (zs (List.replicate y x)).length = y := by rw [zs_len, List.length_replicate]
      have zb : -9223372036854775808 ≤ (z : Int) ∧ (z : Int) ≤ 9223372036854775807 := by omega
      have wy : wrap64 (z : Int) = (z : Int) := IntWalk.wrap64_in _ zb
      have wy3 : IntKind.i64.wrap (z : Int) = (z : Int) := IntWalk.i64_in _ zb
      clear hz hzk zb
      clear hy hy1
      have HSRC : Hid (∀ W, Bk W w.heap.size 3 (zs Z).toArray → ∀ j v, (zs (List.replicate y x))[j]? = some v → W.cell? ((⟨w.heap.size, 0, none⟩ : Addr).add j) = some v) := fun W hW j v hv => by
        have hj : j < y := by
          rcases Nat.lt_or_ge j y with h | h
          · exact h
          · rw [List.getElem?_eq_none (by simpa [zs] using h)] at hv; cases hv
        have hz := (zi_bk hW k HLZ.out).at j (by have := HY.out; omega)
        rw [HZT.out j (by have := HY.out; omega)] at hz
        simp [zs, hj] at hv
        rw [add_row, ← hv]
        exact hz
      go_wp2
      go_region_law (refine step_copy_splice rfl (.tmp 41) (.tmp 44) 22 22 rfl 3 Tryz.underlying22 size_int (some ⟨w.heap.size, t, none⟩) (some ⟨w.heap.size, 0, none⟩) (k - t) (k - t) t k (by simp [Act.eval, Act.put]) (by simp [Act.eval, Act.put]) w.heap.size t (zs Z) 3 (by first | exact HK.out | exact HK.out.drwN _ | exact HK.out.drw) (zs (List.replicate y x)) HL1.out (fun _ => ⟨rfl, _, rfl, by first | exact HSRC.out _ HK.out | exact HSRC.out _ (HK.out.drwN _) | exact HSRC.out _ HK.out.drw⟩) HL2.out (zs_one _) w.heap.size w (by first | exact HB.out | exact HB.out.drwN _ | exact HB.out.drw) (Nat.le_refl _) ?_; intro w4 hg4 hb4)
      all_goals
        rw [splice_zs] at hg4
        (try simp only [hzl, hzi, wy3])
        (try go_simp)
        go_roundw
        case rel =>
          refine ⟨_, _, _, _, _, _, _, _, _, _, _, _, _, _, ?_, rfl⟩
          exact ⟨z, _, _, rfl, by have := HZZ.out; omega, HZZ.out.2.1, by first | rfl | go_num, HSR.out.1, by rw [← HZZ.out.1]; exact HSR.out.2, hg4.out, hb4⟩
        case measure => (have := HZZ.out; simp [intOf]; omega)
    · obtain rfl : t = k := by omega
      have e := all_rep HLZ.out HZT.out
      have HK2 := HK
      rw [e] at HK2
      clear e
      go_wp2
      go_ret
      exact ⟨rfl, HK2.out, HB.out⟩
def SomeRep (x : Int) (k : Nat) (w : World) (e : Ending) (w' : World) : Prop := ∃ a, e = .returned (.slice (some ⟨a, 0, none⟩) k k) ∧ w.heap.size ≤ a ∧ Zi w' (some ⟨a, 0, none⟩) k (List.replicate k x) ∧ Bel w w'
set_option maxRecDepth 100000 in
set_option maxHeartbeats 1000000 in
theorem repeat_zero (g : Nat) (x : Int) (w : World) (hc : w.cell? ⟨g, 0, none⟩ = some (.int .i64 x)) :
    Calls Tryz.prog 66 #[.slice (some ⟨g, 0, none⟩) 1 1, .int .i64 0] w (SomeRep x 0 w) := by
  have hm : ∀ W, Calls Tryz.prog 99 #[.int .u64 1, .int .u64 0] W fun e w' => e = .returned (.tuple #[.int .u64 0, .int .u64 0]) ∧ W = w' := fun W => mul_one 0 (by omega) W
  have HM := Lib.hid hm
  clear hm
  obtain ⟨i0, hi0, hz0, hz1, hz2⟩ := info_parts info_int
  have HI := Lib.hid (And.intro hi0 (And.intro hz0 (And.intro hz1 hz2)))
  have w3 : IntKind.u64.wrap 0 = 0 := by decide
  have w4 : IntKind.u64.wrap 1 = 1 := by decide
  have HNW := Lib.hid (Bk.nw w 3 (zs (List.replicate 0 0)).toArray)
  have HMIN : Hid ((zs []).length = Nat.min 1 0) := rfl
  have HFT : Hid (0 + (zs []).length ≤ (zs (List.replicate 0 0)).length) := Nat.le_refl _
  have HSR0 : Hid (∀ j v, (zs [])[j]? = some v → (w.alloc (.cells (zs (List.replicate 0 0)).toArray 3)).cell? ((⟨g, 0, none⟩ : Addr).add j) = some v) := fun j v hv => by simp [zs] at hv
  clear hc hi0 hz0 hz1 hz2
  go_enter Tryz.func66, Tryz.ntmps66
  go_wp2_with (first
    | (go_at_call 99; refine (HM.out _).mono ?_; rintro e w2 ⟨rfl, rfl⟩)
    | (refine wpList_make_any _ rfl (.tmp 29) (.tmp 29) 22 rfl 3 i0 (.int .i64 0) 1 Tryz.underlying22 HI.out.1 HI.out.2.1 HI.out.2.2.1 .i64 .i64 _ _ 0 0 rfl rfl rfl rfl (by omega) (by rw [HI.out.2.2.2]; omega) (by omega) ?_; rw [made_i64])
    | (refine wpList_copy_splice rfl (.tmp 31) (.tmp 32) 22 22 rfl 3 Tryz.underlying22 size_int (some ⟨w.heap.size, 0, none⟩) (some ⟨g, 0, none⟩) 0 0 1 1 rfl rfl w.heap.size 0 (zs (List.replicate 0 0)) 3 HNW.out (zs []) HMIN.out (fun _ => ⟨rfl, _, rfl, HSR0.out⟩) HFT.out (zs_one _) w.heap.size w (Bel.rf.al _) (Nat.le_refl _) ?_; intro w2 hg2 hb2))
  go_loopw [8] (fun s8 wr => ∃ V : World, V = wr ∧ s8 = .int .i64 0 ∧ Bel w wr) (fun _ _ => 0)
  case atStart => exact ⟨_, rfl, rfl, hb2⟩
  case round =>
    clear hg2 hb2
    obtain ⟨wr, hwr, rfl, hb⟩ := hrel
    subst hwr
    have HB := Lib.hid hb
    clear hb
    go_wp2
    go_ret
    exact ⟨w.heap.size, rfl, Nat.le_refl _, ⟨rfl, fun h => by omega⟩, HB.out⟩
theorem repeat_any (g : Nat) (x : Int) (k : Nat) (k2 : k ≤ 300) (w : World) (hc : w.cell? ⟨g, 0, none⟩ = some (.int .i64 x)) :
    Calls Tryz.prog 66 #[.slice (some ⟨g, 0, none⟩) 1 1, .int .i64 (k : Int)] w (SomeRep x k w) := by
  rcases Nat.eq_zero_or_pos k with h | h
  · subst h; exact repeat_zero g x w hc
  · refine (repeat_ok g x k h k2 w hc).mono ?_
    rintro e w' ⟨rfl, hk, hb⟩
    exact ⟨w.heap.size, rfl, Nat.le_refl _, zi_bk hk k (by simp), hb⟩
end Go.Proofs.YtpbnabibnkohdaaGreatDoor.Sg
namespace Go.Proofs.YtpbnabibnkohdaaGreatDoor.Cd
open Go.ChangeShapes Go.WideShapes Go.RowKit Wo Bm By
set_option linter.unusedVariables false
def dval (d : Int × Int × Int) : Value := .tuple #[.int .i64 d.1, .int .i64 d.2.1, .int .i64 d.2.2]
theorem pow7 (i : Nat) : (2 : Nat) ^ (7 * i) = 128 ^ i := by rw [Nat.pow_mul]
theorem shl7 (x i : Nat) : IntKind.u64.wrap ((x : Int) * 2 ^ (7 * i)) = ((x * 128 ^ i % 18446744073709551616 : Nat) : Int) := by
  rw [IntKind.wrap_u64, ← pow7]
  simp
theorem or7 {u x i : Nat} (hi : i ≤ 9) (hu : u < 128 ^ i) (hx : x < 128) : bits .or .u64 (u : Int) (IntKind.u64.wrap ((x : Int) * 2 ^ (7 * i))) = ((u + x * 128 ^ i % 18446744073709551616 : Nat) : Int) := by
  rw [shl7]
  refine or_u64 (i := 7 * i) (by omega) (by rw [pow7]; exact hu) ?_ (by omega)
  rw [pow7]
  have hd : (128 : Nat) ^ i ∣ 18446744073709551616 := ⟨2 ^ (64 - 7 * i), by
    rw [← pow7, ← Nat.pow_add, show 7 * i + (64 - 7 * i) = 64 by omega]⟩
  rw [Nat.mod_mod_of_dvd _ hd, Nat.mul_mod_left]
theorem next7 {u x i : Nat} (hi : i ≤ 8) (hu : u < 128 ^ i) (hx : x < 128) : u + x * 128 ^ i % 18446744073709551616 < 128 ^ (i + 1) := by
  have h1 : x * 128 ^ i % 18446744073709551616 ≤ x * 128 ^ i := Nat.mod_le _ _
  have h2 : x * 128 ^ i ≤ 127 * 128 ^ i := Nat.mul_le_mul_right _ (by omega)
  rw [Nat.pow_succ]
  omega
theorem last7 {u x i : Nat} (hi : i ≤ 9) (hu : u < 128 ^ i) (hx : x < 128) : u + x * 128 ^ i % 18446744073709551616 < 18446744073709551616 := by
  have hx1 : x * 128 ^ i % 18446744073709551616 < 18446744073709551616 := Nat.mod_lt _ (by decide)
  have h := or7 hi hu hx
  have hd : (128 : Nat) ^ i ∣ 18446744073709551616 := ⟨2 ^ (64 - 7 * i), by
    rw [← pow7, ← Nat.pow_add, show 7 * i + (64 - 7 * i) = 64 by omega]⟩
  have hm : x * 128 ^ i % 18446744073709551616 % 128 ^ i = 0 := by rw [Nat.mod_mod_of_dvd _ hd, Nat.mul_mod_left]
  obtain ⟨q, hq⟩ := Nat.dvd_of_mod_eq_zero hm
  obtain ⟨p, hp⟩ := hd
  rw [hq] at hx1 ⊢
  rw [hp] at hx1 ⊢
  have hqp : q < p := Nat.lt_of_mul_lt_mul_left hx1
  have : 128 ^ i * (q + 1) ≤ 128 ^ i * p := Nat.mul_le_mul_left _ hqp
  rw [Nat.mul_add] at this
  omega
set_option maxHeartbeats 16000000 in
set_option maxRecDepth 100000 in
theorem int_any (A : Option Addr) (c : Nat) (B : List Nat) (at_ : Nat) (hat : at_ ≤ B.length) (hB : B.length ≤ 140737488355000) (w : World) (hr : Rd w A B.length B) :
    Calls Tryz.prog 128 #[.slice A B.length c, .int .i64 (at_ : Int)] w fun e w' => e = .returned (dval (dec B at_)) ∧ w = w' := by
  have HR := Lib.hid hr
  have bl : (B.length : Int) ≤ 140737488355000 := by omega
  have ai : (at_ : Int) ≤ (B.length : Int) := by omega
  have a0 : (0 : Int) ≤ (at_ : Int) := by omega
  clear hr
  go_enter Tryz.func128, Tryz.ntmps128
  go_wp2
  go_loop [7, 18] (fun s7 s18 => ∃ i u : Nat, i ≤ 10 ∧ s18 = .int .i64 (i : Int) ∧ s7 = .int .u64 (u : Int) ∧ (i ≤ 9 → u < 128 ^ i) ∧ at_ + i ≤ B.length ∧ decGo B at_ (10 - i) i u = dec B at_) (fun _ s18 => 10 - (intOf s18).toNat)
  case atStart => exact ⟨0, 0, by omega, rfl, rfl, by intro _; decide, by omega, rfl⟩
  case round =>
    obtain ⟨i, u, hi, rfl, rfl, hu, hl, hd⟩ := hrel
    rcases Nat.lt_or_ge i 10 with h10 | h10
    · have hul := hu (by omega)
      obtain ⟨f, hf⟩ : ∃ f, 10 - i = f + 1 := ⟨9 - i, by omega⟩
      rw [hf, decGo] at hd
      have hf2 : f = 10 - (i + 1) := by omega
      have i10 : (i : Int) < 10 := by omega
      have i0 : (0 : Int) ≤ (i : Int) := by omega
      rcases Nat.lt_or_ge (at_ + i) B.length with hlt | hge
      · rw [if_neg (by omega)] at hd
        have hne : ((at_ : Int) + (i : Int) == (B.length : Int)) = false := by simp; omega
        have hb := HR.out.byte (at_ + i)
        obtain ⟨ad, rfl, hab, hac⟩ := HR.out.2.2 (by omega)
        have hcell := hac (at_ + i) hlt
        obtain ⟨b, hbb⟩ : ∃ b, B.getD (at_ + i) 0 = b := ⟨_, rfl⟩
        rw [hbb] at hb hcell hd
        have hx : b % 128 < 128 := Nat.mod_lt _ (by decide)
        have e0 := and127_u8 hb
        have e1 := or7 (by omega) hul hx
        have hn := fun h : i ≤ 8 => next7 h hul hx
        have hll := last7 (by omega) hul hx
        obtain ⟨x, hxx⟩ : ∃ x, b % 128 = x := ⟨_, rfl⟩
        rw [hxx] at e0 e1 hn hll hd
        obtain ⟨y, hy⟩ : ∃ y, u + x * 128 ^ i % 18446744073709551616 = y := ⟨_, rfl⟩
        rw [hy] at e1 hn hll hd
        have HD := Lib.hid hd
        have HN := Lib.hid hn
        have HLL := Lib.hid hll
        have HE := Lib.hid (And.intro hbb (And.intro hxx hy))
        have bi : (b : Int) < 256 := by omega
        have xi : (x : Int) < 128 := by omega
        have aii : (at_ : Int) + (i : Int) < (B.length : Int) := by omega
        clear hd hn hll hbb hxx hy hx hu hul hac hf hl
        rcases Nat.lt_or_ge 127 b with hg | hg
        · have gi : (127 : Int) < (b : Int) := by omega
          have HD2 : Hid (decGo B at_ f (i + 1) y = dec B at_) := by have := HD.out; rwa [if_pos hg] at this
          have HA : Hid (at_ + (i + 1) ≤ B.length) := by show _ ≤ _; omega
          have HF : Hid (f = 10 - (i + 1)) := hf2
          clear HD hf2
          go_wp2
          go_round
          case rel => exact ⟨i + 1, y, by omega, by go_num, rfl, fun h => HN.out (by omega), HA.out, by rw [← HF.out]; exact HD2.out⟩
          case measure => simp [intOf]; omega
        · have gi : ¬ (127 : Int) < (b : Int) := by omega
          have gi2 : (b : Int) ≤ 127 := by omega
          have HD1 : Hid ((if (i = 9 ∧ 1 < b) ∨ (0 < i ∧ b = 0) then ((0 : Int), (0 : Int), (3 : Int)) else (unf y, ((at_ + i + 1 : Nat) : Int), 0)) = dec B at_) := by have := HD.out; rwa [if_neg (by omega)] at this
          clear HD HN hf2
          rcases Classical.em ((i = 9 ∧ 1 < b) ∨ (0 < i ∧ b = 0)) with hrej | hrej
          · have HD2 : Hid (((0 : Int), (0 : Int), (3 : Int)) = dec B at_) := by have := HD1.out; rwa [if_pos hrej] at this
            clear HD1
            rcases Classical.em (i = 9 ∧ 1 < b) with h9 | h9
            · have t1 : ((i : Int) == 9) = true := by simp; omega
              have t2 : (1 : Int) < (b : Int) := by omega
              clear hrej h9
              go_wp2
              go_ret3
              exact ⟨by rw [← HD2.out]; rfl, rfl⟩
            · have t3 : (0 : Int) < (i : Int) := by omega
              have t4 : ((b : Int) == 0) = true := by simp; omega
              have t1 : ((i : Int) == 9) = true ∧ ¬ (1 : Int) < (b : Int) ∨ ((i : Int) == 9) = false := by
                rcases Nat.lt_or_ge i 9 with h | h
                · exact .inr (by simp; omega)
                · exact .inl ⟨by simp; omega, by omega⟩
              clear hrej h9
              rcases t1 with ⟨t1, t2⟩ | t1
              · go_wp2
                go_ret3
                exact ⟨by rw [← HD2.out]; rfl, rfl⟩
              · go_wp2
                go_ret3
                exact ⟨by rw [← HD2.out]; rfl, rfl⟩
          · have HD2 : Hid ((unf y, ((at_ + i + 1 : Nat) : Int), (0 : Int)) = dec B at_) := by have := HD1.out; rwa [if_neg hrej] at this
            clear HD1
            have t1 : ((i : Int) == 9) = true ∧ ¬ (1 : Int) < (b : Int) ∨ ((i : Int) == 9) = false := by
              rcases Nat.lt_or_ge i 9 with h | h
              · exact .inr (by simp; omega)
              · exact .inl ⟨by simp; omega, by omega⟩
            have t3 : (0 : Int) < (i : Int) ∧ ((b : Int) == 0) = false ∨ ¬ (0 : Int) < (i : Int) := by
              rcases Nat.eq_zero_or_pos i with h | h
              · exact .inr (by omega)
              · exact .inl ⟨by omega, by simp; omega⟩
            clear hrej
            rcases t1 with ⟨t1, t2⟩ | t1 <;> rcases t3 with ⟨t3, t4⟩ | t3
            all_goals
              go_wp2_with (go_at_call 152; refine (unfold_any y HLL.out _).mono ?_; rintro e w' ⟨rfl, rfl⟩)
              go_ret3
              exact ⟨by rw [← HD2.out]; simp [dval], rfl⟩
      · rw [if_pos (by omega)] at hd
        have heq : ((at_ : Int) + (i : Int) == (B.length : Int)) = true := by simp; omega
        have HD2 := Lib.hid hd
        clear hd hu hul hf hl
        go_wp2
        go_ret3
        exact ⟨by rw [← HD2.out]; rfl, rfl⟩
    · obtain rfl : i = 10 := by omega
      have hd2 : ((0 : Int), (0 : Int), (3 : Int)) = dec B at_ := hd
      have HD2 := Lib.hid hd2
      clear hd hd2 hu
      go_wp2
      go_ret3
      exact ⟨by rw [← HD2.out]; rfl, rfl⟩
end Go.Proofs.YtpbnabibnkohdaaGreatDoor.Cd
namespace Go.Proofs.YtpbnabibnkohdaaGreatDoor.Cr
open Go.ChangeShapes Go.WideShapes Go.RowKit Wo Bm By
set_option linter.unusedVariables false
/-- the table while its first k places are filled -/
def tcells (k : Nat) : Array Value := ((List.range 256).map fun i => Value.int .u32 (if i < k then (tab i : Int) else 0)).toArray
def stepn : Nat → Nat → Nat
  | 0, r => r
  | n + 1, r => stepn n (step1 r)
theorem stepn_snoc (n r : Nat) : stepn (n + 1) r = step1 (stepn n r) := by
  induction n generalizing r with
  | zero => rfl
  | succ n ih => rw [stepn, ih]; rfl
theorem stepn_tab (r : Nat) : stepn 8 r = tab r := rfl
theorem stepn_lt (n r : Nat) (h : r < 4294967296) : stepn n r < 4294967296 := by
  induction n generalizing r with
  | zero => exact h
  | succ n ih => exact ih _ (step1_lt h)
theorem tcells_size (k : Nat) : (tcells k).size = 256 := by simp [tcells]
theorem tcells_set (k : Nat) (h : k < 256) : (tcells k).setIfInBounds k (.int .u32 (tab k : Int)) = tcells (k + 1) := by
  apply Array.ext
  · simp [tcells]
  · intro i h1 h2
    simp only [tcells, List.setIfInBounds_toArray, List.getElem_toArray, List.getElem_set, List.getElem_map, List.getElem_range]
    rcases Nat.lt_trichotomy i k with h3 | h3 | h3
    · rw [if_neg (by omega), if_pos h3, if_pos (by omega)]
    · rw [if_pos h3.symm, if_pos (by omega), h3]
    · rw [if_neg (by omega), if_neg (by omega), if_neg (by omega)]
theorem tcells_at {k i : Nat} (h : i < 256) : (tcells k)[i]? = some (.int .u32 (if i < k then (tab i : Int) else 0)) := by
  simp [tcells, h]
/-- a new variable of a long array type -/
theorem wpList_alloc_big {P : Program} (w : World) {ops : Array Oper} {rest : List Oper} {o : Oper} {a : Act} {Q : Exit → Act → World → Prop} (hgd : o.guard = none) (ty : TypeId) (ho : o.op = .alloc ty)
    (cs : Array Value) (hz : (P.info? ty).map (·.zero) = some (some (.agg cs))) (h : wpList P ops Q rest (a.put o.dst (.pointer (some ⟨w.heap.size, 0, none⟩))) (w.alloc (.cells cs ty))) : wpList P ops Q (o :: rest) a w := by
  refine wpList_plain hgd fun K hK => ?_
  obtain ⟨i, hi, hzz⟩ := Option.map_eq_some_iff.1 hz
  have hr : (Instr.alloc ty true (.tuple #[])).run P w = .ok (.pointer (some ⟨w.heap.size, 0, none⟩)) (w.alloc (.cells cs ty)) := by
    simp [Instr.alloc, zeroValue, typeInfo, hi, hzz, newVar, newRow, Value.cells, Sem.run_bind]
  unfold Oper.wp
  simp [execOp, ho, hr, Result.andThen]
  exact hK _ _ h
theorem zero_tab : (Tryz.prog.info? 217).map (·.zero) = some (some (.agg (tcells 0))) := by kernel_rfl
theorem size_tab : (Tryz.prog.info? 217).map (·.size) = some 256 := by kernel_rfl
def TRel (w : World) (s5 : Value) (wr : World) : Prop := ∃ k : Nat, k ≤ 256 ∧ s5 = .int .i64 (k : Int) ∧ Bk wr (w.heap.size + 1) 217 (tcells k) ∧ Bk wr w.heap.size 217 (tcells 0) ∧ Bel w wr
set_option maxHeartbeats 8000000 in
set_option maxRecDepth 100000 in
theorem table_any (w : World) : Calls Tryz.prog 151 #[] w fun e w' => e = .returned (.agg (tcells 256)) ∧ Bel w w' := by
  go_enter Tryz.func151, Tryz.ntmps151
  go_wp2_with (refine wpList_alloc_big _ rfl 217 rfl (tcells 0) zero_tab ?_)
  have HS : Hid (∀ o2 : Obj, TRel w (.int .i64 0) ((w.alloc (.cells (tcells 0) 217)).alloc (.cells (tcells 0) 217))) := fun _ => ⟨0, by omega, rfl, Bk.nq (w.alloc _) _ _ (by simp), (Bk.nw _ _ _).al _, (Bel.rf.al _).al _⟩
  go_loopw [5] (fun s5 wr => TRel w s5 wr) (fun s5 _ => 256 - (intOf s5).toNat)
  case atStart => exact HS.out (.cells #[] 0)
  case round =>
    clear HS
    obtain ⟨k, hk, rfl, hb, ha, hbe⟩ := hrel
    rename_i wr
    have HB := Lib.hid hb
    have HA := Lib.hid ha
    have HX := Lib.hid hbe
    clear hb ha hbe
    rcases Nat.lt_or_ge k 256 with hlt | hge
    · have ki : (k : Int) < 256 := by omega
      have HT := Lib.hid (tcells_at (k := k) hlt)
      obtain ⟨W, rfl⟩ : ∃ W : World, W = wr := ⟨_, rfl⟩
      go_wp2
      go_loop [3, 10] (fun s3 s10 => ∃ n r : Nat, n ≤ 8 ∧ r < 4294967296 ∧ s10 = .int .i64 (n : Int) ∧ s3 = .int .u32 (r : Int) ∧ stepn n k = r) (fun _ s10 => 8 - (intOf s10).toNat)
      case atStart => exact ⟨0, k, by omega, by omega, rfl, rfl, rfl⟩
      case round =>
        obtain ⟨n, r, hn, hr, rfl, rfl, hs⟩ := hrel
        have HS := Lib.hid hs
        clear hs
        rcases Nat.lt_or_ge n 8 with hn8 | hn8
        · have ni : (n : Int) < 8 := by omega
          obtain ⟨x, hx⟩ : ∃ x, step1 r = x := ⟨_, rfl⟩
          have hxl : x < 4294967296 := by rw [← hx]; exact step1_lt hr
          have HN : Hid (stepn (n + 1) k = x) := by show _ = _; rw [stepn_snoc, HS.out, hx]
          have hdiv : (r : Int) / 2 = ((r / 2 : Nat) : Int) := by omega
          rcases Nat.mod_two_eq_zero_or_one r with h2 | h2
          · have e1 : bits .and .u32 (r : Int) 1 = 0 := by rw [and1_u32 hr, h2]; rfl
            have e2 : r / 2 = x := by rw [← hx]; unfold step1; rw [if_neg (by omega)]
            have HE : Hid ((r : Int) / 2 = (x : Int)) := by show _ = _; rw [hdiv, e2]
            clear hx e2 hdiv h2
            go_wp2
            go_round
            case rel => exact ⟨n + 1, x, by omega, hxl, by go_num, by rw [HE.out], HN.out⟩
            case measure => simp [intOf]; omega
          · have e1 : bits .and .u32 (r : Int) 1 = 1 := by rw [and1_u32 hr, h2]; rfl
            have e2 : bits .xor .u32 ((r : Int) / 2) 3988292384 = (x : Int) := by
              rw [hdiv, show (3988292384 : Int) = ((3988292384 : Nat) : Int) from rfl, xor_u32 (by omega) (by omega), ← hx]
              unfold step1
              rw [if_pos h2]
            clear hx hdiv h2
            go_wp2
            go_round
            case rel => exact ⟨n + 1, x, by omega, hxl, by go_num, rfl, HN.out⟩
            case measure => simp [intOf]; omega
        · obtain rfl : n = 8 := by omega
          have hst : tab k = r := by rw [← stepn_tab]; exact HS.out
          have HST := Lib.hid hst
          have c1 : W.cell? ⟨w.heap.size + 1, k, none⟩ = some (.int .u32 (if k < k then (tab k : Int) else 0)) := (HB.out.cell k).trans HT.out
          have f1 : W.frozen? ⟨w.heap.size + 1, k, none⟩ = false := HB.out.fr k
          rw [if_neg (Nat.lt_irrefl k)] at c1
          clear hst
          go_wp2
          go_roundw
          case rel =>
            refine ⟨k + 1, by omega, by go_num, ?_, HA.out.far (by simp) _, HX.out.st (by simp) _⟩
            rw [← tcells_set k hlt, HST.out]
            exact HB.out.st k _
          case measure => simp [intOf]; omega
    · obtain rfl : k = 256 := by omega
      have HZ := Lib.hid (bk_there HA.out)
      go_wp2_with (first
        | (refine wpList_load_row rfl 217 _ rfl (w.heap.size + 1) rfl 217 (tcells 256) (0, 0) _ HB.out Tryz.underlying217 rfl (by kernel_rfl) ?_)
        | (refine wpList_store_mid rfl 217 _ _ rfl w.heap.size 0 (tcells 256) rfl rfl HZ.out (by kernel_rfl) (by kernel_rfl) ?_))
      exact bodyPost_ret (v := .agg (tcells 256)) (results_cell_row Tryz.results151 _ _ w.heap.size 217 (tcells 256) (0, 0) _ rfl (bk_setCells HA.out (by rw [tcells_size, tcells_size])) Tryz.underlying217 rfl (by kernel_rfl)) rfl ⟨rfl, bel_setCells HX.out (Nat.le_refl _) _⟩
end Go.Proofs.YtpbnabibnkohdaaGreatDoor.Cr
namespace Go.Proofs.YtpbnabibnkohdaaGreatDoor.Cr
open Go.ChangeShapes Go.WideShapes Go.RowKit Wo Bm By
set_option linter.unusedVariables false
theorem take_snocN (B : List Nat) (k : Nat) (h : k < B.length) : B.take (k + 1) = B.take k ++ [B.getD k 0] := by
  rw [List.take_succ_eq_append_getElem h, List.getD_eq_getElem?_getD, List.getElem?_eq_getElem h]; rfl
set_option maxHeartbeats 8000000 in
set_option maxRecDepth 100000 in
theorem sum_any (A : Option Addr) (c : Nat) (B : List Nat) (hB : B.length ≤ 140737488355000) (w : World) (hr : Rd w A B.length B) :
    Calls Tryz.prog 125 #[.slice A B.length c] w fun e w' => e = .returned (.int .u32 (crc B : Int)) ∧ Bel w w' := by
  have HR := Lib.hid hr
  have bl : (B.length : Int) ≤ 140737488355000 := by omega
  clear hr
  go_enter Tryz.func125, Tryz.ntmps125
  go_wp2_with fail
  go_at_call 151
  refine (table_any _).mono ?_
  rintro e w1 ⟨rfl, h1⟩
  have HX := Lib.hid h1
  clear h1
  go_wp2_with (first
    | (refine wpList_alloc_big _ rfl 217 rfl (tcells 0) zero_tab ?_)
    | (refine wpList_store_big rfl 217 _ _ rfl w1.heap.size (tcells 256) (tcells 0) 217 rfl rfl (Bk.nw _ _ _) (by rw [tcells_size, tcells_size]) (by kernel_rfl) (by kernel_rfl) ?_; intro W HBK HBE))
  have HW : Hid (Bel w W) := HBE.out w (HX.out.al _) HX.out.size
  have HRW := Lib.hid (HR.out.bel HW.out)
  clear HBE HX HR
  have hrd := HRW.out.byte

  go_loop [4, 10] (fun s4 s10 => ∃ k : Nat, k ≤ B.length ∧ s10 = .int .i64 (k : Int) ∧ s4 = .int .u32 (reg (B.take k) : Int)) (fun _ s10 => B.length - (intOf s10).toNat)
  case atStart => exact ⟨0, by omega, rfl, rfl⟩
  case round =>
    obtain ⟨k, hk, rfl, rfl⟩ := hrel
    have hbytes : ∀ x ∈ B.take k, x < 256 := fun x hx => HRW.out.2.1 x (List.mem_of_mem_take hx)
    have hrl := reg_lt hbytes
    rcases Nat.lt_or_ge k B.length with hlt | hge
    · obtain ⟨ad, rfl, hab, hac⟩ := HRW.out.2.2 (by omega)
      have hcell := hac k hlt
      have hb := hrd k
      have hsn := reg_snoc (B.take k) (B.getD k 0)
      rw [← take_snocN B k hlt] at hsn
      obtain ⟨cb, hcb⟩ : ∃ cb, B.getD k 0 = cb := ⟨_, rfl⟩
      rw [hcb] at hcell hb hsn
      obtain ⟨r, hrr⟩ : ∃ r, reg (B.take k) = r := ⟨_, rfl⟩
      rw [hrr] at hrl hsn ⊢
      have hil := idx_lt (r := r) hb
      have hu := (show stp r cb = (r / 256) ^^^ tab (r % 256 ^^^ cb) from rfl)
      obtain ⟨i, hi⟩ : ∃ i, r % 256 ^^^ cb = i := ⟨_, rfl⟩
      rw [hi] at hil hu
      have htl := tab_lt (i := i) (by omega)
      have hT := tcells_at (k := 256) hil
      rw [if_pos hil] at hT
      have c1 : W.cell? ⟨w1.heap.size, i, none⟩ = some (.int .u32 (tab i : Int)) := (HBK.out.cell i).trans hT
      obtain ⟨t, ht⟩ : ∃ t, tab i = t := ⟨_, rfl⟩
      rw [ht] at htl hu c1
      have e1 : bits .xor .u8 ((r : Int) % 256) (cb : Int) = (i : Int) := by rw [show (r : Int) % 256 = ((r % 256 : Nat) : Int) by omega, xor_u8 (by omega) hb, hi]
      have e2 : bits .xor .u32 ((r : Int) / 256) (t : Int) = (stp r cb : Int) := by rw [show (r : Int) / 256 = ((r / 256 : Nat) : Int) by omega, xor_u32 (by omega) htl, hu]
      obtain ⟨x, hx⟩ : ∃ x, stp r cb = x := ⟨_, rfl⟩
      rw [hx] at e2 hsn
      have HN := Lib.hid hsn
      have HRR := Lib.hid hrr
      have HCB := Lib.hid hcb
      have HXX := Lib.hid hx
      have HI := Lib.hid hi
      have HT2 := Lib.hid ht
      have ii : (i : Int) < 256 := by omega
      have ki : (k : Int) < (B.length : Int) := by omega
      clear hsn hrr hcb hx hi ht hT hu hbytes hac hrd
      go_wp2
      go_round
      case rel => exact ⟨k + 1, by omega, by go_num, by rw [HN.out]⟩
      case measure => simp [intOf]; omega
    · obtain rfl : k = B.length := by omega
      have hall : B.take B.length = B := List.take_of_length_le (Nat.le_refl _)
      rw [hall] at hrl ⊢
      obtain ⟨r, hrr⟩ : ∃ r, reg B = r := ⟨_, rfl⟩
      rw [hrr] at hrl ⊢
      have HRR := Lib.hid hrr
      clear hall hrr hbytes hrd
      go_wp2
      go_ret
      exact ⟨ret_int (by rw [not_u32 hrl, ← HRR.out]; rfl), HW.out⟩
end Go.Proofs.YtpbnabibnkohdaaGreatDoor.Cr
namespace Go.Proofs.YtpbnabibnkohdaaGreatDoor.Eu
open Go.ChangeShapes Go.WideShapes Go.RowKit Wo Sr Wi Ra
set_option linter.unusedVariables false
set_option maxHeartbeats 8000000 in
set_option maxRecDepth 100000 in
theorem squares_ok (A A' : Option Addr) (c c' n : Nat) (L M : List Int) (n2 : n ≤ 32) (hs : Sam L) (ht : Sam M) (w : World) (h1 : Zi w A n L) (h2 : Zi w A' n M) :
    Calls Tryz.prog 53 #[.slice A n c, .slice A' n c', .int .i64 9223372036854775807] w fun e w' => e = .returned (.int .i64 (su sq (df L M))) ∧ Bel w w' := by
  have H1 := Lib.hid h1
  have H2 := Lib.hid h2
  have HS := Lib.hid hs
  have HT := Lib.hid ht
  have hlen : L.length = M.length := by rw [h1.1, h2.1]
  have hl := h1.1
  have HD : Hid (Bd 2000 (df L M)) := df_bd (A := 1000) (B := 1000) hs ht
  have i2 : (n : Int) ≤ 32 := by omega
  clear h1 h2 hs ht
  go_enter Tryz.func53, Tryz.ntmps53
  go_wp2
  go_step3
  go_wp2
  go_step3
  go_wp2
  go_loopw [7, 12] (fun s7 s12 wr => ∃ (t : Nat) (V : World) (s : Int), V = wr ∧ t ≤ n ∧ s12 = .int .i64 (t : Int) ∧ s7 = .int .i64 s ∧ s = su sq ((df L M).take t) ∧ Bel w wr) (fun _ s12 _ => n - (intOf s12).toNat)
  case atStart => exact ⟨0, _, 0, rfl, by omega, rfl, rfl, by simp [su], Bel.rf⟩
  case round =>
    obtain ⟨t, wr, s, hwr, ht, rfl, rfl, hs, hb⟩ := hrel
    subst hwr
    have HB := Lib.hid hb
    have HSV := Lib.hid hs
    rcases Nat.lt_or_ge t n with hlt | hge
    · obtain ⟨ad, rfl, _, hac⟩ := (H1.out.bel hb).2 (by omega)
      obtain ⟨ad', rfl, _, hac'⟩ := (H2.out.bel hb).2 (by omega)
      have c1 := hac t hlt
      have c2 := hac' t hlt
      have hd := df_at hlen t (by omega)
      have hn := su_next sq (df L M) t (by rw [df_len hlen]; omega)
      have hbd := susq_bd (HD.out.take t)
      have hbd2 := susq_bd (HD.out.take (t + 1))
      have tl : (((df L M).take t).length : Int) ≤ 32 ∧ (((df L M).take (t + 1)).length : Int) ≤ 32 := by
        have := List.length_take_le t (df L M)
        have := List.length_take_le (t + 1) (df L M)
        omega
      have px := HS.out.at t
      have py := HT.out.at t
      obtain ⟨x, hx⟩ : ∃ x, L.getD t 0 = x := ⟨_, rfl⟩
      obtain ⟨y, hy⟩ : ∃ y, M.getD t 0 = y := ⟨_, rfl⟩
      rw [hx] at c1 px hd
      rw [hy] at c2 py hd
      rw [hd] at hn
      rw [hn, ← hs] at hbd2
      rw [← hs] at hbd hn
      unfold sq at hn hbd2
      obtain ⟨x0, x1⟩ := px
      obtain ⟨y0, y1⟩ := py
      obtain ⟨d, hdd⟩ : ∃ d, x - y = d := ⟨_, rfl⟩
      rw [hdd] at hn hbd2
      have HN : Hid (s + d * d = su sq ((df L M).take (t + 1))) := hn.symm
      have s0 : 0 ≤ s ∧ s ≤ 128000000 ∧ 0 ≤ s + d * d ∧ s + d * d ≤ 128000000 := by
        obtain ⟨a, b⟩ := hbd
        obtain ⟨a2, b2⟩ := hbd2
        omega
      have dq := sq_nn d
      obtain ⟨s00, s01, s02, s03⟩ := s0
      have m1 : wrap64 (d * d) = d * d := IntWalk.wrap64_in _ (by omega)
      have m2 : IntKind.i64.wrap (d * d) = d * d := IntWalk.i64_in _ (by omega)
      have m3 : IntKind.i64.wrap (s + d * d) = s + d * d := IntWalk.i64_in _ (by omega)
      have m5 : IntKind.i64.wrap d = d := IntWalk.i64_in _ (by omega)
      have m6 : IntKind.i64.wrap (x - y) = d := by rw [hdd]; exact m5
      have bk : decide (9223372036854775807 < s + d * d) = false := decide_eq_false (by omega)
      have ti : (t : Int) < (n : Int) := by omega
      have HXY := Lib.hid (And.intro hx hy)
      clear hb hs hac hac' hd hbd hbd2 tl hx hy hn
      go_wp2
      go_quiet (fail)
      go_wp2
      go_roundw
      case rel => exact ⟨t + 1, _, _, rfl, by omega, by go_num, rfl, HN.out, by first | exact HB.out.drwN _ | exact HB.out.drw | exact HB.out⟩
      case measure => simp [intOf]; omega
    · obtain rfl : t = n := by omega
      have e : (df L M).take t = df L M := List.take_of_length_le (by rw [df_len hlen]; omega)
      rw [e] at hs
      clear hb
      go_wp2
      rw [Exit.noGoto_ret]
      go_ret
      exact ⟨ret_int hs, HB.out⟩
theorem distance_ok (A A' : Option Addr) (c c' n : Nat) (L M : List Int) (n1 : 2 ≤ n) (n2 : n ≤ 32) (hs : Sam L) (ht : Sam M) (w : World) (h1 : Zi w A n L) (h2 : Zi w A' n M) :
    Calls Tryz.prog 30 #[.slice A n c, .slice A' n c'] w fun e w' => e = .returned (.tuple #[.int .i64 (su sq (df L M)), .int .i64 0]) ∧ Bel w w' := by
  have HW : Hid (∀ W, Bel w W → _) := fun W hW => windows_ok A A' c c' n L M n1 n2 hs ht W (h1.bel hW) (h2.bel hW)
  have HQ : Hid (∀ W, Bel w W → _) := fun W hW => squares_ok A A' c c' n L M n2 hs ht W (h1.bel hW) (h2.bel hW)
  clear h1 h2 hs ht
  go_enter Tryz.func30, Tryz.ntmps30
  go_wp2_with fail
  go_at_call 52
  refine (HW.out _ Bel.rf).mono ?_
  rintro e w1 ⟨rfl, hb1⟩
  have HB1 := Lib.hid hb1
  clear hb1
  go_wp2_with (go_at_call 53; refine (HQ.out _ HB1.out).mono ?_; rintro e w2 ⟨rfl, hb2⟩)
  go_ret2
  exact ⟨rfl, HB1.out.tr hb2⟩
set_option maxHeartbeats 8000000 in
set_option maxRecDepth 100000 in
theorem shifted_ok (A A' : Option Addr) (c c' n : Nat) (L M : List Int) (n1 : 2 ≤ n) (n2 : n ≤ 32) (hs : Sam L) (ht : Sam M) (w : World) (h1 : Zi w A n L) (h2 : Zi w A' n M) :
    Calls Tryz.prog 72 #[.slice A n c, .slice A' n c'] w fun e w' => e = .returned (.tuple #[.agg #[.int .i64 (vr (df L M) / gd (vr (df L M)) n), .int .i64 ((n : Int) / gd (vr (df L M)) n)], .int .i64 0]) ∧ Bel w w' := by
  have H1 := Lib.hid h1
  have H2 := Lib.hid h2
  have HS := Lib.hid hs
  have HT := Lib.hid ht
  have hlen : L.length = M.length := by rw [h1.1, h2.1]
  have hl := h1.1
  have HD : Hid (Bd 2000 (df L M)) := df_bd (A := 1000) (B := 1000) hs ht
  have i2 : (n : Int) ≤ 32 := by omega
  have i1 : 2 ≤ (n : Int) := by omega
  have dl : ((df L M).length : Int) = (n : Int) := by rw [df_len hlen, hl]
  have q1 := susq_bd HD.out
  have q2 := su_bd HD.out
  rw [dl] at q1 q2
  have hv := vr_nn (df L M)
  have hve : vr (df L M) = (n : Int) * su sq (df L M) - su ix (df L M) * su ix (df L M) := by unfold vr; rw [dl]
  have q3 := sq_nn (su ix (df L M))
  have q4 : (n : Int) * su sq (df L M) ≤ 32 * 128000000 := Int.mul_le_mul i2 (by omega) q1.1 (by omega)
  have q5 : 0 ≤ (n : Int) * su sq (df L M) := Int.mul_nonneg (by omega) q1.1
  obtain ⟨V, hV⟩ : ∃ V, vr (df L M) = V := ⟨_, rfl⟩
  rw [hV] at hv hve ⊢
  have HDI : Hid (∀ W, Bel w W → _) := fun W hW => distance_ok A A' c c' n L M n1 n2 hs ht W (h1.bel hW) (h2.bel hW)
  have mf := make_facts (n := V) (d := (n : Int)) hv (by omega) (by omega) (by omega)
  have HMK : Hid (∀ W, Calls Tryz.prog 103 #[.int .i64 V, .int .i64 (n : Int)] W fun e w' => e = .returned (.tuple #[.agg #[.int .i64 (V / gd V n), .int .i64 ((n : Int) / gd V n)], .int .i64 0]) ∧ Bel W w') := fun W =>
    make_in V (n : Int) W hv (by omega) (rin_yes ⟨by omega, by omega, by omega, by omega⟩) (by omega) (by omega)
  obtain ⟨X, hX⟩ : ∃ X, V / gd V n = X := ⟨_, rfl⟩
  obtain ⟨Y, hY⟩ : ∃ Y, (n : Int) / gd V n = Y := ⟨_, rfl⟩
  rw [hX, hY] at HMK ⊢
  obtain ⟨Q, hQ⟩ : ∃ Q, su sq (df L M) = Q := ⟨_, rfl⟩
  rw [hQ] at HDI hve q4 q5
  obtain ⟨S, hSe⟩ : ∃ S, su ix (df L M) = S := ⟨_, rfl⟩
  rw [hSe] at hve q3 q2
  have wp1 : wrap64 ((n : Int) * Q) = (n : Int) * Q := IntWalk.wrap64_in _ (by omega)
  have wp2 : wrap64 (S * S) = S * S := IntWalk.wrap64_in _ (by omega)
  have wp3 : wrap64 ((n : Int) * Q - S * S) = V := by rw [← hve]; exact IntWalk.wrap64_in _ (by omega)
  have wp5 : wrap64 V = V := IntWalk.wrap64_in _ (by omega)
  have wp4 : (n : Int) * Q - S * S = V := hve.symm
  have HSE := Lib.hid (And.intro hSe (And.intro hX hY))
  have HKV : Hid (0 ≤ V ∧ V ≤ 4096000000) := ⟨hv, by omega⟩
  clear h1 h2 hs ht dl q1 q2 hv hve q3 q4 q5 hV hQ hSe mf hX hY
  go_enter Tryz.func72, Tryz.ntmps72
  go_wp2_with fail
  go_at_call 30
  refine (HDI.out _ (Bel.rf.al _)).mono ?_
  rintro e w1 ⟨rfl, hb1⟩
  have HB1 : Hid (Bel w w1) := (Bel.rf.al _).tr hb1
  have HK1 : Hid (Bk w1 w.heap.size 42 #[.int .i64 0, .int .i64 0]) := (Bk.nw _ _ _).bel hb1
  clear hb1
  go_wp2
  go_loopw [8, 25] (fun s8 s25 wr => ∃ (t : Nat) (V : World) (s : Int), V = wr ∧ t ≤ n ∧ s25 = .int .i64 (t : Int) ∧ s8 = .int .i64 s ∧ s = su ix ((df L M).take t) ∧ Bel w1 wr) (fun _ s25 _ => n - (intOf s25).toNat)
  case atStart => exact ⟨0, _, 0, rfl, by omega, rfl, rfl, by simp [su], Bel.rf⟩
  case round =>
    obtain ⟨t, wr, s, hwr, ht, rfl, rfl, hs, hb⟩ := hrel
    subst hwr
    have HB := Lib.hid hb
    have HSV := Lib.hid hs
    rcases Nat.lt_or_ge t n with hlt | hge
    · obtain ⟨ad, rfl, _, hac⟩ := (H1.out.bel (HB1.out.tr hb)).2 (by omega)
      obtain ⟨ad', rfl, _, hac'⟩ := (H2.out.bel (HB1.out.tr hb)).2 (by omega)
      have c1 := hac t hlt
      have c2 := hac' t hlt
      have hd := df_at hlen t (by omega)
      have hn := su_next ix (df L M) t (by rw [df_len hlen]; omega)
      have hbd := su_bd (HD.out.take t)
      have tl : (((df L M).take t).length : Int) ≤ 32 := by have := List.length_take_le t (df L M); omega
      have px := HS.out.at t
      have py := HT.out.at t
      obtain ⟨x, hx⟩ : ∃ x, L.getD t 0 = x := ⟨_, rfl⟩
      obtain ⟨y, hy⟩ : ∃ y, M.getD t 0 = y := ⟨_, rfl⟩
      rw [hx] at c1 px hd
      rw [hy] at c2 py hd
      rw [hd] at hn
      rw [← hs] at hbd hn
      obtain ⟨x0, x1⟩ := px
      obtain ⟨y0, y1⟩ := py
      have HN : Hid (s + (x - y) = su ix ((df L M).take (t + 1))) := hn.symm
      have s0 : -64000 ≤ s ∧ s ≤ 64000 := by omega
      obtain ⟨s00, s01⟩ := s0
      have m6 : IntKind.i64.wrap (x - y) = x - y := IntWalk.i64_in _ (by omega)
      have m7 : IntKind.i64.wrap (s + (x - y)) = s + (x - y) := IntWalk.i64_in _ (by omega)
      have ti : (t : Int) < (n : Int) := by omega
      have HXY := Lib.hid (And.intro hx hy)
      clear hb hs hac hac' hd hbd tl hx hy hn wp1 wp2 wp3 wp4 wp5
      go_wp2
      go_quiet (fail)
      go_wp2
      go_roundw
      case rel => exact ⟨t + 1, _, _, rfl, by omega, by go_num, rfl, HN.out, by first | exact HB.out.drwN _ | exact HB.out.drw | exact HB.out⟩
      case measure => simp [intOf]; omega
    · obtain rfl : t = n := by omega
      have e : (df L M).take t = df L M := List.take_of_length_le (by rw [df_len hlen]; omega)
      rw [e, HSE.out.1] at hs
      subst hs
      have HF := Lib.hid (HB1.out.tr hb)
      have HK2 := Lib.hid (HK1.out.bel hb)
      clear hb e
      go_wp2_with fail
      go_at_call 103
      refine (HMK.out _).mono ?_
      rintro e w3' ⟨rfl, hb3⟩
      have K3 := HK2.out.bel hb3
      have l0 : w3'.cell? ⟨w.heap.size, 0, none⟩ = some (.int .i64 0) := K3.cell 0
      have l1 : w3'.cell? ⟨w.heap.size, 1, none⟩ = some (.int .i64 0) := K3.cell 1
      have j0 := K3.fr 0
      have j1 := K3.fr 1
      have HF3 := Lib.hid (HF.out.tr hb3)
      clear hb3 K3
      go_wp2
      refine bodyPost_ret (v := .tuple #[.agg #[.int .i64 X, .int .i64 Y], .int .i64 0]) (by simp [results, Tryz.results72, go_sem, l0, l1]) rfl ⟨rfl, ?_⟩
      exact (HF3.out.st (Nat.le_refl _) _).st (Nat.le_refl _) _
end Go.Proofs.YtpbnabibnkohdaaGreatDoor.Eu
namespace Go.Proofs.YtpbnabibnkohdaaGreatDoor.Eu
open Go.ChangeShapes Go.WideShapes Go.RowKit Wo Sr Wi Ra
set_option linter.unusedVariables false
set_option maxHeartbeats 4000000 in
/-- the distances to the first k windows -/
def prof (Q Z : List Int) (n k : Nat) : List Int := (List.range k).map fun i => su sq (df Q ((Z.drop i).take n))
theorem prof_len (Q Z : List Int) (n k : Nat) : (prof Q Z n k).length = k := by simp [prof]
theorem prof_at (Q Z : List Int) (n k i : Nat) (h : i < k) : (prof Q Z n k).getD i 0 = su sq (df Q ((Z.drop i).take n)) := by
  rw [List.getD_eq_getElem?_getD, prof, List.getElem?_map, List.getElem?_range h]; rfl
theorem prof_next (Q Z : List Int) (n k : Nat) : prof Q Z n k ++ [su sq (df Q ((Z.drop k).take n))] = prof Q Z n (k + 1) := by
  unfold prof
  rw [List.range_succ (n := k), List.map_append]
  rfl
def PI (Q Z : List Int) (n N base : Nat) (w : World) (s7 s28 : Value) (wr : World) : Prop := ∃ (k : Nat) (V : World) (u : Value), V = wr ∧ u = s7 ∧ k ≤ N ∧ s28 = .int .i64 (k : Int) ∧
  wr.ownsRow base 3 1 s7 k (zs (prof Q Z n k)) ∧ Bel w wr ∧ base ≤ wr.heap.size
theorem pi_step {Q Z : List Int} {n N k h cap : Nat} {w wr w1 w2 : World} {s7 : Value} {y : Int} (hk : k < N) (hy : su sq (df Q ((Z.drop k).take n)) = y)
    (hown : wr.ownsRow w.heap.size 3 1 s7 k (zs (prof Q Z n k))) (hb : Bel w wr) (hbase : w.heap.size ≤ wr.heap.size) (h1 : Bel wr w1)
    (hown2 : w2.ownsRow w.heap.size 3 1 (.slice (some ⟨h, 0, none⟩) (k + 1) cap) (k + 1) (zs (prof Q Z n k) ++ [.int .i64 y])) (hgr : (w1.alloc (.cells #[.int .i64 y] 3)).grownBy w2 s7.ownBlock) :
    PI Q Z n N w.heap.size w (.slice (some ⟨h, 0, none⟩) (k + 1) cap) (.int .i64 ((k : Int) + 1)) w2 := by
  have hrow : ∀ b, s7.ownBlock = some b → w.heap.size ≤ b := fun b e => (hown.lt b e).1
  have h2 : Bel w (w1.alloc (.cells #[.int .i64 y] 3)) := (hb.tr h1).al _
  refine ⟨k + 1, _, _, rfl, rfl, by omega, by congr 1, ?_, ?_, ?_⟩
  · rw [← prof_next, zs_app, hy]; exact hown2
  · exact Below.grown h2 hgr h2.size (fun b e => by have := hrow b e; omega)
  · have := hgr.size
    have := h1.size
    simp at *
    omega
set_option maxHeartbeats 8000000 in
set_option maxRecDepth 100000 in
theorem profile_ok (A : Option Addr) (c n h c' T N : Nat) (Q Z : List Int) (n1 : 2 ≤ n) (n2 : n ≤ 32) (hT : T ≤ 2000) (hnT : n ≤ T) (hN : T + 1 - n = N) (hcap : T ≤ c') (hs : Sam Q) (ht : Sam Z) (w : World) (h1 : Zi w A n Q) (h2 : Zi w (some ⟨h, 0, none⟩) T Z) :
    Calls Tryz.prog 38 #[.slice A n c, .slice (some ⟨h, 0, none⟩) T c'] w fun e w' => ∃ v, e = .returned (.tuple #[v, .int .i64 0]) ∧ w'.ownsRow w.heap.size 3 1 v N (zs (prof Q Z n N)) ∧ Bel w w' := by
  obtain ⟨i0, hi0, hz0, hz1, hz2⟩ := info_parts info_int
  have HI := Lib.hid (And.intro hi0 (And.intro hz0 (And.intro hz1 hz2)))
  clear hi0 hz0 hz1 hz2
  have H1 := Lib.hid h1
  have H2 := Lib.hid h2
  have HS := Lib.hid hs
  have HT := Lib.hid ht
  have i1 : 2 ≤ (n : Int) := by omega
  have i2 : (n : Int) ≤ 32 := by omega
  have i3 : (T : Int) ≤ 2000 := by omega
  have i4 : (T : Int) ≤ (c' : Int) := by omega
  have hmx : (T : Int) - (n : Int) + 1 = (N : Int) := by omega
  have hN0 : 0 < (N : Int) := by omega
  have hNi : (N : Int) ≤ 2001 := by omega
  clear h1 h2 hs ht
  go_enter Tryz.func38, Tryz.ntmps38
  go_wp2_with fail
  go_at_call 68
  refine (window_ok A c n Q n1 n2 HS.out _ H1.out).mono ?_
  rintro e w1 ⟨rfl, hb1⟩
  have HB1 := Lib.hid hb1
  clear hb1
  go_wp2_with (go_at_call 50; refine (samples_ok _ c' T Z (by omega) HT.out _ (H2.out.bel HB1.out)).mono ?_; rintro e w2 ⟨rfl, hb2⟩)
  have HB2 := Lib.hid (HB1.out.tr hb2)
  clear hb2
  have HR0 : Hid (PI Q Z n N w2.heap.size w2 (.slice none 0 0) (.int .i64 0) w2) := ⟨0, _, _, rfl, rfl, by omega, rfl, World.ownsRow_nil _ _ _ _, Bel.rf, Nat.le_refl _⟩
  go_loopw [7, 28] (fun s7 s28 wr => PI Q Z n N w2.heap.size w2 s7 s28 wr) (fun _ s28 _ => N - (intOf s28).toNat)
  case atStart => exact HR0.out
  case round =>
    clear HR0
    obtain ⟨k, wr, u7, hwr, hu7, hk, rfl, hown, hb, hbase⟩ := hrel
    subst hwr hu7
    have HO := Lib.hid hown
    have HB := Lib.hid hb
    rcases Nat.lt_or_ge k N with hlt | hge
    · have hw : Bel w wr := HB2.out.tr hb
      have HSQ := Lib.hid (squares_ok A (some ⟨h, k, none⟩) c n n Q ((Z.drop k).take n) n2 HS.out ((HT.out.drop k).take n) wr (H1.out.bel hw) (zi_sub (H2.out.bel hw) k n (by omega)))
      obtain ⟨y, hy⟩ : ∃ y, su sq (df Q ((Z.drop k).take n)) = y := ⟨_, rfl⟩
      rw [hy] at HSQ
      have HY := Lib.hid hy
      have ki : (k : Int) < (N : Int) := by omega
      have kb : (k : Int) + (n : Int) ≤ (T : Int) := by omega
      have kc : (k : Int) + (n : Int) ≤ (c' : Int) := by omega
      clear hown hb hw hy
      go_wp2_with fail
      go_at_call 53
      refine HSQ.out.mono ?_
      rintro e w3 ⟨rfl, hb3⟩
      have hown1 := own_bel HO.out hb3
      have hsz := hb3.size
      have HOW := Lib.hid hown1
      have HB3 := Lib.hid hb3
      clear hown1 hb3
      go_wp2_with (at_builtin; refine wpList_append_lies _ (by rfl) _ _ 22 (by rfl) w2.heap.size 3 i0 _ 1 8 Tryz.underlying22 HI.out.1 HI.out.2.1 HI.out.2.2.1 HI.out.2.2.2 (by rfl) (by omega) u7 k (zs (prof Q Z n k)) (by rfl) (HOW.out.alloc _) ⟨w3.heap.size, 0, none⟩ 1 1 [.int .i64 y] (by rfl) (by rfl) (World.news_of_block (cs := #[.int .i64 y]) (t := 3) (fr := (0, 0)) (heap_alloc_new w3 _)) (by simp [Value.oneCell']) (by omega) (by unfold maxLen; omega) (by omega) (by simp; omega) (w3.heap.size + 1) (by simp) ?_; intro h' cap' w5 hown4 hgrow hat hlt4)
      have hstep := pi_step hlt HY.out HO.out HB.out hbase HB3.out hown4 hgrow
      have HST := Lib.hid hstep
      clear hstep hown4 hgrow hat
      go_wp2
      go_roundw
      case rel => exact HST.out
      case measure => simp [intOf]; omega
    · obtain rfl : k = N := by omega
      clear hown hb
      go_wp2
      go_ret2
      exact ⟨_, rfl, HO.out.mono HB2.out.size, HB2.out.tr HB.out⟩
end Go.Proofs.YtpbnabibnkohdaaGreatDoor.Eu
