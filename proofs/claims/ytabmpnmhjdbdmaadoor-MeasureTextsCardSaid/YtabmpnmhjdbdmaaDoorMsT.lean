/- The text of a valid measure is read as this measure; whatever is read has its text and is valid. -/
import Derived.Test.YtabmpnmhjdbdmaaDoorMsAw
namespace Go.Proofs.YtabmpnmhjdbdmaaDoor.Ms
open Go.ChangeShapes Go.WideShapes Go.RowKit Wo Sr Wi Ra Rr
set_option linter.unusedVariables false
theorem mv_form {k b g : Int} (h : Mv k b g) : ∃ (j : Nat) (n : Int), 1 ≤ j ∧ j ≤ 5 ∧ okm j n ∧ -1000 ≤ n ∧ n ≤ 1000 ∧ k = (j : Int) ∧ b = bd j n ∧ g = gp j n := by
  rcases h with ⟨rfl | rfl | rfl, rfl, rfl⟩ | ⟨rfl, b0, b1, rfl⟩ | ⟨rfl, rfl, g0, g1⟩
  · exact ⟨1, 0, by decide, by decide, .inl (by decide), by decide, by decide, rfl, rfl, rfl⟩
  · exact ⟨2, 0, by decide, by decide, .inl (by decide), by decide, by decide, rfl, rfl, rfl⟩
  · exact ⟨3, 0, by decide, by decide, .inl (by decide), by decide, by decide, rfl, rfl, rfl⟩
  · exact ⟨4, b, by decide, by decide, .inr (.inl ⟨rfl, b0, b1⟩), by omega, by omega, rfl, rfl, rfl⟩
  · exact ⟨5, g, by decide, by decide, .inr (.inr ⟨rfl, g0, g1⟩), g0, g1, rfl, rfl, rfl⟩
theorem mag_dec (u : Nat) (hu : u < 9223372036854775808) : Lib.parseMag (Lib.decDigits u) = .ok u := by
  have hp := p10_dec u hu []
  rw [List.append_nil] at hp
  unfold Lib.parseMag
  rw [if_neg (by have := dec_ne u; cases h : Lib.decDigits u <;> simp_all), hp]
  rfl
theorem atoi_itoa (n : Int) (h0 : -1000 ≤ n) (h1 : n ≤ 1000) : Lib.atoiAll (Lib.itoa n) = .ok n := by
  rcases Int.lt_or_le n 0 with h | h
  · obtain ⟨u, hu⟩ : ∃ u : Nat, n = -(u : Int) := ⟨n.natAbs, by omega⟩
    subst hu
    rw [Lib.itoa_neg u (by omega), Lib.atoiAll_minus, mag_dec u (by omega)]
    unfold Lib.signed
    simp only
    rw [if_neg (by omega)]
  · rw [itoa_pos h, atoi_dec _ (by omega)]
    congr 1
    omega
theorem ba_list (l : List UInt8) : (⟨l.toArray⟩ : ByteArray).data.toList = l := List.toList_toArray
theorem fmt_low {j : Nat} {n : Int} (hj : j ≤ 3) : fmt j n = nm j := by unfold fmt; rw [if_pos (.inl hj), if_pos hj]
theorem fmt_high {j : Nat} {n : Int} (hj : ¬ j ≤ 3) (h : okm j n) : fmt j n = nm j ++ 32 :: Lib.itoa n := by unfold fmt; rw [if_pos h, if_neg hj]
theorem fmt_sz {j : Nat} {n : Int} (h5 : j ≤ 5) (n0 : -1000 ≤ n) (n1 : n ≤ 1000) : (⟨(fmt j n).toArray⟩ : ByteArray).size ≤ 281474976710000 := by
  show (fmt j n).toArray.size ≤ _
  rw [List.size_toArray]
  have hn : (nm j).length ≤ 7 := by unfold nm; split <;> (try split) <;> (try split) <;> (try split) <;> decide
  have hi := Lib.itoa_length_le n (by omega) (by omega)
  unfold fmt
  split
  · split
    · omega
    · rw [List.length_append, List.length_cons]; omega
  · show (0 : Nat) ≤ _; omega
theorem cut_4 (r : List UInt8) : cut32 ([119, 97, 114, 112] ++ 32 :: r) = ([119, 97, 114, 112], r, true) := by
  have e : Lib.indexByte ([119, 97, 114, 112] ++ 32 :: r) 32 = 4 := rfl
  unfold cut32
  rw [e]
  rfl
theorem cut_5 (r : List UInt8) : cut32 ([101, 100, 105, 116] ++ 32 :: r) = ([101, 100, 105, 116], r, true) := by
  have e : Lib.indexByte ([101, 100, 105, 116] ++ 32 :: r) 32 = 4 := rfl
  unfold cut32
  rw [e]
  rfl
/-- what Parse reads of a text -/
theorem fmt_cnd {j : Nat} {n : Int} (h1 : 1 ≤ j) (h5 : j ≤ 5) (h : okm j n) (n0 : -1000 ≤ n) (n1 : n ≤ 1000) :
    (cut32 (fmt j n)).1 = nm j ∧ bd j (Lib.atoiOr (cut32 (fmt j n)).2.1 0) = bd j n ∧ gp j (Lib.atoiOr (cut32 (fmt j n)).2.1 0) = gp j n ∧ fmt j (Lib.atoiOr (cut32 (fmt j n)).2.1 0) = fmt j n := by
  rcases (by omega : j = 1 ∨ j = 2 ∨ j = 3 ∨ j = 4 ∨ j = 5) with rfl | rfl | rfl | rfl | rfl
  · rw [fmt_low (by decide)]; exact ⟨rfl, rfl, rfl, fmt_low (by decide)⟩
  · rw [fmt_low (by decide)]; exact ⟨rfl, rfl, rfl, fmt_low (by decide)⟩
  · rw [fmt_low (by decide)]; exact ⟨rfl, rfl, rfl, fmt_low (by decide)⟩
  · have e : fmt 4 n = [119, 97, 114, 112] ++ 32 :: Lib.itoa n := fmt_high (by decide) h
    have a : Lib.atoiOr (Lib.itoa n) 0 = n := by unfold Lib.atoiOr; rw [atoi_itoa n n0 n1]
    rw [e, cut_4]
    show [119, 97, 114, 112] = nm 4 ∧ bd 4 (Lib.atoiOr (Lib.itoa n) 0) = bd 4 n ∧ gp 4 (Lib.atoiOr (Lib.itoa n) 0) = gp 4 n ∧ fmt 4 (Lib.atoiOr (Lib.itoa n) 0) = _
    rw [a]
    exact ⟨rfl, rfl, rfl, e⟩
  · have e : fmt 5 n = [101, 100, 105, 116] ++ 32 :: Lib.itoa n := fmt_high (by decide) h
    have a : Lib.atoiOr (Lib.itoa n) 0 = n := by unfold Lib.atoiOr; rw [atoi_itoa n n0 n1]
    rw [e, cut_5]
    show [101, 100, 105, 116] = nm 5 ∧ bd 5 (Lib.atoiOr (Lib.itoa n) 0) = bd 5 n ∧ gp 5 (Lib.atoiOr (Lib.itoa n) 0) = gp 5 n ∧ fmt 5 (Lib.atoiOr (Lib.itoa n) 0) = _
    rw [a]
    exact ⟨rfl, rfl, rfl, e⟩
theorem nm_inj {i j : Nat} (h1 : 1 ≤ i) (h5 : i ≤ 5) (k1 : 1 ≤ j) (k5 : j ≤ 5) (h : nm i = nm j) : i = j := by
  rcases (by omega : i = 1 ∨ i = 2 ∨ i = 3 ∨ i = 4 ∨ i = 5) with rfl | rfl | rfl | rfl | rfl <;>
  rcases (by omega : j = 1 ∨ j = 2 ∨ j = 3 ∨ j = 4 ∨ j = 5) with rfl | rfl | rfl | rfl | rfl <;>
  first | rfl | (exfalso; revert h; decide)
theorem ba_inj {x y : List UInt8} (h : (⟨x.toArray⟩ : ByteArray) = ⟨y.toArray⟩) : x = y := by
  have := congrArg (fun b : ByteArray => b.data.toList) h
  simpa using this
theorem parse_fmt (j : Nat) (n : Int) (h1 : 1 ≤ j) (h5 : j ≤ 5) (h : okm j n) (n0 : -1000 ≤ n) (n1 : n ≤ 1000) (hs : (⟨(fmt j n).toArray⟩ : ByteArray).size ≤ 281474976710000) (w : World) (hw : Lw w) :
    Calls Tryd.prog 15 #[.string ⟨(fmt j n).toArray⟩] w fun e w' => e = .returned (.tuple #[.agg #[.int .i64 (j : Int), .int .i64 (bd j n), .int .i64 (gp j n)], .int .i64 0]) ∧ Bel w w' := by
  obtain ⟨c1, c2, c3, c4⟩ := fmt_cnd h1 h5 h n0 n1
  have hnum : num ⟨(fmt j n).toArray⟩ = Lib.atoiOr (cut32 (fmt j n)).2.1 0 := by unfold num; rw [ba_list]
  have hc : cnd ⟨(fmt j n).toArray⟩ j := by
    unfold cnd
    rw [hnum, c4, ba_list, c1]
    exact ⟨rfl, rfl⟩
  refine (parse_ok _ hs w hw).mono ?_
  rintro e w1 ⟨hh, hb⟩
  rcases hh with ⟨i, i1, i5, hi, rfl⟩ | ⟨hh, _⟩
  · have e1 := ba_inj hi.1
    rw [ba_list, c1] at e1
    obtain rfl := nm_inj h1 h5 i1 i5 e1
    rw [hnum, c2, c3]
    exact ⟨rfl, hb⟩
  · exact absurd hc (hh j h1 h5)
/-- what is read is valid -/
theorem cnd_ok {s : ByteArray} {j : Nat} (h1 : 1 ≤ j) (h5 : j ≤ 5) (h : cnd s j) : okm j (num s) := by
  rcases Classical.em (okm j (num s)) with hv | hv
  · exact hv
  · exfalso
    have e2 := h.2
    have e1 := h.1
    have ef : fmt j (num s) = [] := by unfold fmt; rw [if_neg hv]
    rw [ef] at e2
    subst e2
    have e3 := ba_inj e1
    rcases (by omega : j = 1 ∨ j = 2 ∨ j = 3 ∨ j = 4 ∨ j = 5) with rfl | rfl | rfl | rfl | rfl <;> revert e3 <;> decide
end Go.Proofs.YtabmpnmhjdbdmaaDoor.Ms
