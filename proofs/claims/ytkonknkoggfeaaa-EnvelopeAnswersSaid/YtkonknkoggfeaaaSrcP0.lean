/- The contract of shapesearchkeep's Pick: one of the numbers of a list (a seat without ratio). -/
import Derived.Test.YtkonknkoggfeaaaSrcN0
namespace Go.Proofs.Ytkonknkoggfeaaa.Sr
open Go.ChangeShapes Go.WideShapes Go.RowKit Wo
set_option linter.unusedVariables false
def SomePick (g : Nat) (L : List Int) (w : World) (e : Ending) (w' : World) : Prop := ∃ x : Int, e = .returned (.int .i64 x) ∧ x ∈ L ∧ Ok w' g ∧ Ch g w w'
/-- the block holds the numbers of a list -/
def Lst (w : World) (b : Nat) (L : List Int) : Prop := b < w.heap.size ∧ ∀ i, i < L.length → w.cell? ⟨b, i, none⟩ = some (.int .i64 (L.getD i 0))
theorem lst_new (w : World) (L : List Int) (t : TypeId) (cs : Array Value) (hc : cs = (L.map (Value.int .i64)).toArray) (b : Nat) (hb : w.heap.size = b) : Lst (w.alloc (.cells cs t)) b L := by
  subst hb hc
  refine ⟨by simp, fun i hi => ?_⟩
  rw [cell_of_row _ _ i _ t (0, 0) (heap_alloc_new w _)]
  simp [List.getD_eq_getElem?_getD, hi]
theorem pick_any (g b : Nat) (L : List Int) (m : Nat) (hm : m = L.length) (h1 : 1 ≤ m) (h2 : m ≤ 1000000) (hbg : b ≠ g) (w : World) (h : Ok w g) (hl : Lst w b L) :
    Calls Try.prog 21 #[.pointer (some ⟨g, 0, none⟩), .slice (some ⟨b, 0, none⟩) m m] w (SomePick g L w) := by
  have HO := Lib.hid h
  have HLs := Lib.hid hl
  have HM := Lib.hid hm
  clear h hl hm
  go_enter Try.func21, Try.ntmps21
  go_wp2_with fail
  go_at_call 20
  refine (n_any g (m : Int) (by omega) (by omega) _ HO.out).mono ?_
  rintro e w1 ⟨x, rfl, hx0, hx1, ho, hc⟩
  obtain ⟨k, rfl⟩ := Int.eq_ofNat_of_zero_le hx0
  have hk : k < m := by omega
  have hcell : w1.cell? ⟨b, k, none⟩ = some (.int .i64 (L.getD k 0)) := hc.kp (HLs.out.2 k (by have := HM.out; omega)) hbg
  have hmem : Hid (L.getD k 0 ∈ L) := by
    have hkl : k < L.length := by have := HM.out; omega
    show L.getD k 0 ∈ L
    rw [List.getD_eq_getElem?_getD, List.getElem?_eq_getElem hkl]
    exact List.getElem_mem hkl
  have HOK := Lib.hid ho
  have HCH := Lib.hid hc
  clear ho hc
  generalize L.getD k 0 = v at *
  go_wp2
  go_ret
  exact ⟨v, rfl, hmem.out, HOK.out, HCH.out⟩
end Go.Proofs.Ytkonknkoggfeaaa.Sr
