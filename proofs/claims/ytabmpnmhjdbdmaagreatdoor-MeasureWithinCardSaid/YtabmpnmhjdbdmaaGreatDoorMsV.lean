/- The laid variables of the library. -/
import Derived.Test.YtabmpnmhjdbdmaaGreatDoorRrMath
import Derived.Test.YtabmpnmhjdbdmaaGreatDoorShelf
import Derived.Test.YtabmpnmhjdbdmaaGreatDoorWords
import Derived.Test.YtabmpnmhjdbdmaaGreatDoorRows
import Derived.WalkKit
import Derived.WalkLawsBesides
import Derived.WalkSpells
import Derived.Outline
import Derived.Lib.Hide
import Derived.IntWalk
import Derived.WalkMore
import Derived.Deep.QuietTactic
import Derived.BigQuiet
import Derived.Laws.ResultCell
import Derived.Deep.DeepCutAuto
import Derived.Stop.LaidErr
import Derived.Stop.Joined
import Derived.LaidMore
import Derived.Deep.RegionHeld3
import Derived.Lib.IndexLaws
import Derived.Lib.IndexBytes
namespace Go.Proofs.YtabmpnmhjdbdmaaGreatDoor.Rr
open Go.ChangeShapes Go.WideShapes Go.RowKit Wo Ra
set_option linter.unusedVariables false
theorem var_bel {w w' : World} {n : String} {cs : Array Value} (h : w.var? Tryz.prog n = some cs) (hb : Bel w w') : w'.var? Tryz.prog n = some cs := by
  unfold World.var? at h ⊢
  rcases hg : Tryz.prog.globalNamed n with _ | g
  · rw [hg] at h; cases h
  · rw [hg] at h
    simp only [Option.bind_some] at h ⊢
    have hlt : g < w.heap.size := by
      rcases Nat.lt_or_ge g w.heap.size with h1 | h1
      · exact h1
      · rw [Array.getElem?_eq_none h1] at h; cases h
    rw [Below.block hb g hlt]
    exact h
/-- the library's table of the powers of ten -/
def Itab (w : World) : Prop := Lib.TabIs Tryz.prog w "internal/strconv.uint64pow10" .u64 Lib.pow10Tab
theorem Itab.bel {w w' : World} (h : Itab w) (hb : Bel w w') : Itab w' := by
  unfold Itab Lib.TabIs World.var? at h ⊢
  rcases hg : Tryz.prog.globalNamed "internal/strconv.uint64pow10" with _ | g
  · rw [hg] at h; cases h
  · rw [hg] at h
    simp only [Option.bind_some] at h ⊢
    have hlt : g < w.heap.size := by
      rcases Nat.lt_or_ge g w.heap.size with h1 | h1
      · exact h1
      · rw [Array.getElem?_eq_none h1] at h; cases h
    rw [Below.block hb g hlt]
    exact h
/-- what the library's variables hold -/
def Lw (w : World) : Prop := Itab w ∧ (∃ tp p, w.var? Tryz.prog "strconv.ErrSyntax" = some #[.iface tp p]) ∧ (∃ tp p, w.var? Tryz.prog "strconv.ErrRange" = some #[.iface tp p])
theorem Lw.bel {w w' : World} (h : Lw w) (hb : Bel w w') : Lw w' := by
  obtain ⟨a, ⟨t1, p1, b⟩, t2, p2, c⟩ := h
  exact ⟨a.bel hb, ⟨t1, p1, var_bel b hb⟩, t2, p2, var_bel c hb⟩
theorem lw_of {W : World} (h : laidMetH Tryz.prog [("math/bits.deBruijn32tab", Rows.laid_math_bits_deBruijn32tab), ("math/bits.deBruijn64tab", Rows.laid_math_bits_deBruijn64tab), ("internal/strconv.uint64pow10", Rows.laid_internal_strconv_uint64pow10), ("strconv.ErrRange", Rows.laid_strconv_ErrRange), ("strconv.ErrSyntax", Rows.laid_strconv_ErrSyntax)] W) : Lw W := by
  rw [MakeChecks.laidMetH_plain _ _ _ (by kernel_rfl)] at h
  have h2 := h.tail.tail
  have h3 := h2.tail
  have h4 := h3.tail
  have hrow : ∀ u, Tryz.prog.typeName? 3 u = some "*errors.errorString" → u = 118 := fun u h => by
    have star : "*" ++ "errors.errorString" = "*errors.errorString" := by decide
    exact typeName_ptr_named (nm := "errors.errorString") (by rw [star]; kernel_rfl) (by kernel_rfl) (by decide) u (by rw [star]; exact h)
  obtain ⟨a3, s3, v3, _⟩ := laid_sentinel (g := 2) h3 (by kernel_rfl) (by kernel_rfl) Tryz.underlying67 hrow Tryz.underlying118 Tryz.underlying120 rfl rfl Tryz.underlying9 (by kernel_rfl) (by kernel_rfl)
  obtain ⟨a4, s4, v4, _⟩ := laid_sentinel (g := 1) h4 (by kernel_rfl) (by kernel_rfl) Tryz.underlying67 hrow Tryz.underlying118 Tryz.underlying120 rfl rfl Tryz.underlying9 (by kernel_rfl) (by kernel_rfl)
  refine ⟨Lib.tabIs_of_head (g := 3) (t := 128) (e := 81) (n := 20) (by kernel_rfl) (by kernel_rfl) Tryz.underlying128 Tryz.underlying81 (by kernel_rfl) (by kernel_rfl) h2, ⟨_, _, v4⟩, _, _, v3⟩
end Go.Proofs.YtabmpnmhjdbdmaaGreatDoor.Rr
