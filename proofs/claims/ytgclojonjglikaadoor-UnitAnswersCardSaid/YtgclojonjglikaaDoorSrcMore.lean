/- The contracts of shapesearchkeep's Range and Text: a number in a range, one of some strings. -/
import Derived.Test.YtgclojonjglikaaDoorSrcN
namespace Go.Proofs.YtgclojonjglikaaDoor.Sr
open Go.ChangeShapes Go.WideShapes Go.RowKit Wo
set_option linter.unusedVariables false
def SomeRange (g : Nat) (lo hi : Int) (w : World) (e : Ending) (w' : World) : Prop := ∃ x : Int, e = .returned (.int .i64 x) ∧ lo ≤ x ∧ x ≤ hi ∧ Ok w' g ∧ Ch g w w'
theorem range_any (g : Nat) (lo hi : Int) (h0 : -2305843009213693952 ≤ lo) (h1 : lo ≤ hi) (h2 : hi ≤ 2305843009213693952) (w : World) (h : Ok w g) :
    Calls Tryd.prog 16 #[.pointer (some ⟨g, 0, none⟩), .int .i64 lo, .int .i64 hi] w (SomeRange g lo hi w) := by
  have HN : Hid (∀ W, Ok W g → Calls Tryd.prog 18 #[.pointer (some ⟨g, 0, none⟩), .int .i64 (hi - lo + 1)] W (SomeN g (hi - lo + 1) W)) := fun W hW => n_any g _ (by omega) (by omega) W hW
  have HO := Lib.hid h
  clear h
  go_enter Tryd.func16, Tryd.ntmps16
  go_wp2_with fail
  go_at_call 18
  refine (HN.out _ HO.out).mono ?_
  rintro e w1 ⟨x, rfl, hx0, hx1, ho, hc⟩
  have HOK := Lib.hid ho
  have HCH := Lib.hid hc
  clear ho hc
  go_wp2
  go_ret
  exact ⟨lo + x, rfl, by omega, by omega, HOK.out, HCH.out⟩
def SomeText (g : Nat) (L : List ByteArray) (w : World) (e : Ending) (w' : World) : Prop := ∃ x : ByteArray, e = .returned (.string x) ∧ x ∈ L ∧ Ok w' g ∧ Ch g w w'
/-- the block holds the strings of a list -/
def LstS (w : World) (b : Nat) (L : List ByteArray) : Prop := b < w.heap.size ∧ ∀ i, i < L.length → w.cell? ⟨b, i, none⟩ = some (.string (L.getD i ⟨#[]⟩))
theorem lstS_new (w : World) (L : List ByteArray) (t : TypeId) (cs : Array Value) (hc : cs = (L.map Value.string).toArray) (b : Nat) (hb : w.heap.size = b) : LstS (w.alloc (.cells cs t)) b L := by
  subst hb hc
  refine ⟨by simp, fun i hi => ?_⟩
  rw [cell_of_row _ _ i _ t (0, 0) (heap_alloc_new w _)]
  simp [List.getD_eq_getElem?_getD, hi]
theorem text_any (g b : Nat) (L : List ByteArray) (m : Nat) (hm : m = L.length) (h1 : 1 ≤ m) (h2 : m ≤ 1000000) (hbg : b ≠ g) (w : World) (h : Ok w g) (hl : LstS w b L) :
    Calls Tryd.prog 19 #[.pointer (some ⟨g, 0, none⟩), .slice (some ⟨b, 0, none⟩) m m] w (SomeText g L w) := by
  have HO := Lib.hid h
  have HLs := Lib.hid hl
  have HM := Lib.hid hm
  clear h hl hm
  go_enter Tryd.func19, Tryd.ntmps19
  go_wp2_with fail
  go_at_call 18
  refine (n_any g (m : Int) (by omega) (by omega) _ HO.out).mono ?_
  rintro e w1 ⟨x, rfl, hx0, hx1, ho, hc⟩
  obtain ⟨k, rfl⟩ := Int.eq_ofNat_of_zero_le hx0
  have hk : k < m := by omega
  have hcell : w1.cell? ⟨b, k, none⟩ = some (.string (L.getD k ⟨#[]⟩)) := hc.kp (HLs.out.2 k (by have := HM.out; omega)) hbg
  have hmem : Hid (L.getD k ⟨#[]⟩ ∈ L) := by
    have hkl : k < L.length := by have := HM.out; omega
    show L.getD k ⟨#[]⟩ ∈ L
    rw [List.getD_eq_getElem?_getD, List.getElem?_eq_getElem hkl]
    exact List.getElem_mem hkl
  have HOK := Lib.hid ho
  have HCH := Lib.hid hc
  clear ho hc
  generalize L.getD k ⟨#[]⟩ = v at *
  go_wp2
  go_ret
  exact ⟨v, rfl, hmem.out, HOK.out, HCH.out⟩
end Go.Proofs.YtgclojonjglikaaDoor.Sr
