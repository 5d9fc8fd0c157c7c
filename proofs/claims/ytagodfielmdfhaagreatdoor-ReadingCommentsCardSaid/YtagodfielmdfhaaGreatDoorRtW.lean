/- The laid variables; texts of the laws of layer 5. -/
import Derived.Test.YtagodfielmdfhaaGreatDoorRtG
import Derived.Stop.Joined
import Derived.Stop.LaidErr
import Derived.LaidMore
import Derived.MakeChecks
namespace Go.Proofs.YtagodfielmdfhaaGreatDoor.Rt
open Go.ChangeShapes Go.WideShapes Go.RowKit Wo Un Rg Go.MapKept Sr
open Rm (Rp tm vl)
set_option linter.unusedVariables false
def Lr (w : World) : Prop := Itab w ∧ Pows w
theorem Lr.bel {w w' : World} (h : Lr w) (hb : Bel w w') : Lr w' := ⟨h.1.bel hb, h.2.bel hb⟩
theorem lr_of {W : World} (h : laidMetH Tryz.prog [("math/bits.deBruijn32tab", Rows.laid_math_bits_deBruijn32tab), ("math/bits.deBruijn64tab", Rows.laid_math_bits_deBruijn64tab), ("internal/strconv.uint64pow10", Rows.laid_internal_strconv_uint64pow10), ("unicode/utf8.acceptRanges", Rows.laid_unicode_utf8_acceptRanges), ("strconv.ErrRange", Rows.laid_strconv_ErrRange), ("strconv.ErrSyntax", Rows.laid_strconv_ErrSyntax), ("shapesearch/unit.powers", Rows.laid_shapesearch_unit_powers), ("unicode/utf8.first", Rows.laid_unicode_utf8_first)] W) : Lr W := by
  rw [MakeChecks.laidMetH_plain _ _ _ (by kernel_rfl)] at h
  have h2 := h.tail.tail
  have h6 := h2.tail.tail.tail.tail
  refine ⟨Lib.tabIs_of_head (g := 2) (t := 125) (e := 101) (n := 20) (by kernel_rfl) (by kernel_rfl) Tryz.underlying125 Tryz.underlying101 (by kernel_rfl) (by kernel_rfl) h2, ?_⟩
  have t : Lib.TabIs Tryz.prog W "shapesearch/unit.powers" .i64 [1, 10, 100, 1000, 10000, 100000, 1000000] :=
    Lib.tabIs_of_head (g := 0) (t := 99) (e := 3) (n := 7) (by kernel_rfl) (by kernel_rfl) Tryz.underlying99 Tryz.underlying3 (by kernel_rfl) (by kernel_rfl) h6
  intro i hi
  have := t.cell (g := 0) (by kernel_rfl) i (by simp; omega)
  rw [this]
  match i, hi with
  | 0, _ => rfl
  | 1, _ => rfl
  | 2, _ => rfl
  | 3, _ => rfl
  | 4, _ => rfl
  | 5, _ => rfl
  | 6, _ => rfl
theorem run_back {l : List Rp} (h : Vrs l) (hl : l.length ≤ 400) : run US2 (lns (ft l)) 1 [] = (l, 0, 0) := by
  have e := lns_ft l []
  rw [List.append_nil, lns_nil] at e
  rw [e, run_ft US2 us2_raw l _ _ _ h (by simp; omega)]; rfl
theorem run_two {l m : List Rp} (h : Vrs l) (hm : Vrs m) (hl : l.length + m.length ≤ 400) : run US2 (lns (ft l ++ ft m)) 1 [] = (l ++ m, 0, 0) := by
  have e := lns_ft m []
  rw [List.append_nil, lns_nil] at e
  rw [lns_ft, e, run_ft US2 us2_raw l _ _ _ h (by simp; omega), run_ft US2 us2_raw m _ _ _ hm (by simp; omega)]; rfl
theorem lt_ne (p : Rp) : lt p ≠ [] := by unfold lt; simp
theorem lt_ok {p : Rp} (h : Vr p.1 p.2) : ¬ (lt p = [] ∨ (lt p).head? = some 35) := by
  have hc : ∃ c r, lt p = c :: r ∧ c ∈ fm p.1 0 := by
    rcases hq : fm p.1 0 with _ | ⟨c, r⟩
    · have h1 := Lib.decDigits_length p.1.natAbs
      have h2 := Lib.nDigits_pos p.1.natAbs
      rw [fm_pos p.1 h.1] at hq
      rw [hq] at h1; simp at h1; omega
    · exact ⟨c, r ++ 32 :: (fm p.2 0 ++ 32 :: [114, 97, 119]), by unfold lt; rw [hq]; rfl, by simp⟩
  obtain ⟨c, r, e, hc⟩ := hc
  rw [e]
  intro h
  rcases h with h | h
  · simp at h
  · simp at h
    rcases fm_char p.1 c hc with h' | h'
    · rw [h] at h'; exact absurd h' (by decide)
    · rw [h] at h'; exact absurd h' (by unfold isD; decide)
theorem lns_cut (l : List Rp) (hne : l ≠ []) : lns ((ft l).take ((ft l).length - 1)) = l.map lt := by
  have e : l = l.dropLast ++ [l.getLast hne] := (List.dropLast_concat_getLast hne).symm
  generalize l.dropLast = a at e
  generalize l.getLast hne = p at e
  subst e
  have e2 : ft (a ++ [p]) = (ft a ++ lt p) ++ [10] := by rw [ft_app]; simp [ft]
  rw [e2, List.length_append, List.length_singleton, Nat.add_sub_cancel, List.take_left' rfl, lns_ft, lns_last _ (lt_no p) (lt_ne p)]
  simp
theorem run_cut {l : List Rp} (h : Vrs l) (hl : l.length ≤ 400) (hne : l ≠ []) : run US2 (lns ((ft l).take ((ft l).length - 1))) 1 [] = (l, 0, 0) := by
  have := run_ft US2 us2_raw l [] 1 [] h (by simp; omega)
  rw [lns_cut l hne]
  rw [List.append_nil] at this
  rw [this]; rfl
theorem run_deco {l : List Rp} (h : Vrs l) (hl : l.length ≤ 400) : run US2 (lns ([10, 35, 32, 49, 32, 50, 32, 114, 97, 119, 10] ++ ft l ++ [35])) 1 [] = (l, 0, 0) := by
  have e : lns ([10, 35, 32, 49, 32, 50, 32, 114, 97, 119, 10] ++ ft l ++ [35]) = [] :: [35, 32, 49, 32, 50, 32, 114, 97, 119] :: (l.map lt ++ [[35]]) := by
    rw [show [10, 35, 32, 49, 32, 50, 32, 114, 97, 119, 10] ++ ft l ++ [35] = [] ++ 10 :: ([35, 32, 49, 32, 50, 32, 114, 97, 119] ++ 10 :: (ft l ++ [35])) by simp, lns_line _ _ (by simp), lns_line _ _ (by decide), lns_ft, lns_last _ (by decide) (by decide)]
  rw [e, run_skip US2 _ _ _ _ (.inl rfl), run_skip US2 _ _ _ _ (.inr rfl), run_ft US2 us2_raw l _ _ _ h (by simp; omega), run_skip US2 _ _ _ _ (.inr rfl)]; rfl
end Go.Proofs.YtagodfielmdfhaaGreatDoor.Rt
