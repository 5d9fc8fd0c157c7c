/- Rows of ratios that the call makes: what an append does to them, and what they hold. -/
import Derived.Test.YtmpkjlifcdobiaaDoorSrcRatio
import Derived.Test.YtmpkjlifcdobiaaDoorLeast
import Derived.Deep.AppendLies
import Derived.Deep.RegionWith
namespace Go.Proofs.YtmpkjlifcdobiaaDoor.Sr
open Go.ChangeShapes Go.WideShapes Go.RowKit Wo Ra
set_option linter.unusedVariables false
theorem info_ratio : (Tryd.prog.info? 23).map (fun i => (i.zero, i.size, i.bytes)) = some (some (.agg #[.int .i64 0, .int .i64 0]), 2, 16) := by kernel_rfl
def flat (L : List (Int × Int)) : List Value := L.flatMap fun p => [.int .i64 p.1, .int .i64 p.2]
theorem flat_snoc (L : List (Int × Int)) (n d : Int) : flat L ++ [.int .i64 n, .int .i64 d] = flat (L ++ [(n, d)]) := by simp [flat]
theorem flat_at : ∀ (L : List (Int × Int)) (i : Nat) (h : i < L.length), (flat L)[i * 2]? = some (.int .i64 (L.getD i (0, 1)).1) ∧ (flat L)[i * 2 + 1]? = some (.int .i64 (L.getD i (0, 1)).2)
  | [], i, h => by simp at h
  | p :: L, 0, _ => by simp [flat]
  | p :: L, i + 1, h => by
    have ih := flat_at L i (by simpa using h)
    have e : flat (p :: L) = .int .i64 p.1 :: .int .i64 p.2 :: flat L := by simp [flat]
    rw [e, show (i + 1) * 2 = i * 2 + 1 + 1 by omega]
    simpa using ih
theorem Ok.grown {w w' : World} {g : Nat} {row : Option Nat} (h : Ok w g) (hg : w.grownBy w' row) (hr : ∀ b, row = some b → g < b) : Ok w' g := by
  obtain ⟨A, n, c, k, zs, h1, h2, h3, h4, h5⟩ := h
  refine ⟨A, n, c, k, zs, (hg.block g h1.lt (fun e => by have := hr _ e.symm; omega)).trans h1, h2, h3, h4, fun hn => ?_⟩
  obtain ⟨x, e, hx, hc⟩ := h5 hn
  exact ⟨x, e, hx, fun i hi => World.grownBy.cell hg (hc i hi) (fun e => by have := hr _ e.symm; rw [add_block] at this; omega)⟩
/-- the first loop's relation: k ratios have been appended -/
def Row1 (n0 : Int) (g base : Nat) (w : World) (s4 s5 : Value) (wr : World) : Prop := ∃ (k : Nat) (L : List (Int × Int)), (k : Int) ≤ n0 + 1 ∧ s5 = .int .i64 (n0 - k) ∧ wr.ownsRow base 23 2 s4 k (flat L) ∧ L.length = k ∧ (∀ p ∈ L, RV p.1 p.2) ∧ Ok wr g ∧ Bel w wr ∧ base ≤ wr.heap.size
theorem row1_step {n0 : Int} {g base k h cap : Nat} {w wr w1 w2 : World} {s4 : Value} {L : List (Int × Int)} {n d : Int} (hgb : g < base) (hwg : w.heap.size ≤ g) (hk : (k : Int) ≤ n0) (hL : L.length = k) (hv : ∀ p ∈ L, RV p.1 p.2) (hn : RV n d)
    (hown : wr.ownsRow base 23 2 s4 k (flat L)) (ho1 : Ok w1 g) (hc1 : Ch g wr w1) (hb : Bel w wr) (hbase : base ≤ wr.heap.size)
    (hown2 : w2.ownsRow base 23 2 (.slice (some ⟨h, 0, none⟩) (k + 1) cap) (k + 1) (flat L ++ [.int .i64 n, .int .i64 d])) (hgr : (w1.alloc (.cells #[.int .i64 n, .int .i64 d] 23)).grownBy w2 s4.ownBlock) :
    Row1 n0 g base w (.slice (some ⟨h, 0, none⟩) (k + 1) cap) (.int .i64 (n0 - k - 1)) w2 := by
  have hrow : ∀ b, s4.ownBlock = some b → base ≤ b := fun b e => (hown.lt b e).1
  refine ⟨k + 1, L ++ [(n, d)], by omega, by congr 1; omega, by rw [← flat_snoc]; exact hown2, by simp [hL], ?_, ?_, ?_, ?_⟩
  · intro p hp
    rcases List.mem_append.1 hp with h | h
    · exact hv p h
    · simp at h; subst h; exact hn
  · exact (ho1.bel (Bel.rf.al _)).grown hgr (fun b e => by have := hrow b e; omega)
  · have h1 : Bel w w1 := Bel.ch hb hc1 hwg
    have h2 : Bel w (w1.alloc (.cells #[.int .i64 n, .int .i64 d] 23)) := h1.al _
    exact Below.grown h2 hgr h2.size (fun b e => by have := hrow b e; omega)
  · have := hgr.size
    have := hc1.sz
    simp at *
    omega
theorem row1_cells {base k h cap : Nat} {w : World} {L : List (Int × Int)} (hown : w.ownsRow base 23 2 (.slice (some ⟨h, 0, none⟩) k cap) k (flat L)) (hL : L.length = k) :
    Cells w h k (fun i => (L.getD i (0, 1)).1) (fun i => (L.getD i (0, 1)).2) := by
  have hadd : ∀ j, (⟨h, 0, none⟩ : Addr).add j = ⟨h, j, none⟩ := fun j => by unfold Addr.add; split <;> simp_all
  intro i hi
  have f := flat_at L i (by omega)
  have c := hown.cells (g := h) rfl
  exact ⟨by rw [← hadd]; exact c _ _ f.1, by rw [← hadd]; exact c _ _ f.2⟩
theorem valids_of {k : Nat} {L : List (Int × Int)} (hL : L.length = k) (hv : ∀ p ∈ L, RV p.1 p.2) : Valids k (fun i => (L.getD i (0, 1)).1) (fun i => (L.getD i (0, 1)).2) := by
  intro i hi
  have : L.getD i (0, 1) ∈ L := by
    rw [List.getD_eq_getElem?_getD, List.getElem?_eq_getElem (by omega)]
    exact List.getElem_mem _
  exact hv _ this
end Go.Proofs.YtmpkjlifcdobiaaDoor.Sr
