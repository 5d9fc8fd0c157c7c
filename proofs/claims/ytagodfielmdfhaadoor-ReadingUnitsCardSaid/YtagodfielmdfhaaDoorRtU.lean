/- The laid variables; the text of a number in a unit, and its reading. -/
import Derived.Test.YtagodfielmdfhaaDoorRefG
import Derived.Test.YtagodfielmdfhaaDoorRtG
import Derived.Stop.Joined
import Derived.Stop.LaidErr
import Derived.LaidMore
import Derived.MakeChecks
namespace Go.Proofs.YtagodfielmdfhaaDoor.Rt
open Go.ChangeShapes Go.WideShapes Go.RowKit Wo Un Rg Go.MapKept Sr Rd1
open Rm (Rp tm vl)
set_option linter.unusedVariables false
def Lu (w : World) : Prop := Pows w
theorem Lu.bel {w w' : World} (h : Lu w) (hb : Bel w w') : Lu w' := Pows.bel h hb
theorem lu_of {W : World} (h : laidMetH Tryd.prog [("math/bits.deBruijn32tab", Rows.laid_math_bits_deBruijn32tab), ("math/bits.deBruijn64tab", Rows.laid_math_bits_deBruijn64tab), ("internal/strconv.uint64pow10", Rows.laid_internal_strconv_uint64pow10), ("unicode/utf8.acceptRanges", Rows.laid_unicode_utf8_acceptRanges), ("strconv.ErrRange", Rows.laid_strconv_ErrRange), ("strconv.ErrSyntax", Rows.laid_strconv_ErrSyntax), ("shapesearch/unit.powers", Rows.laid_shapesearch_unit_powers), ("unicode/utf8.first", Rows.laid_unicode_utf8_first)] W) : Lu W := by
  rw [MakeChecks.laidMetH_plain _ _ _ (by kernel_rfl)] at h
  have h2 := h.tail.tail
  have h6 := h2.tail.tail.tail.tail
  have t : Lib.TabIs Tryd.prog W "shapesearch/unit.powers" .i64 [1, 10, 100, 1000, 10000, 100000, 1000000] :=
    Lib.tabIs_of_head (g := 0) (t := 78) (e := 3) (n := 7) (by kernel_rfl) (by kernel_rfl) Tryd.underlying78 Tryd.underlying3 (by kernel_rfl) (by kernel_rfl) h6
  intro i hi
  have := t.cell (g := 0) (by kernel_rfl) i (by simp; omega)
  rw [this]
  match i, hi with
  | 0, _ => rfl
  | 1, _ => rfl
  | 2, _ => rfl
  | 3, _ => rfl
  | 4, _ => rfl
  | 5, _ => rfl
  | 6, _ => rfl
def uu (m d : Int) : Ut := ⟨[117], m, 0, d⟩
def US3 (m d : Int) : List Ut := [raw, uu m d]
theorem us3_good {m d : Int} (m1 : 1 ≤ m) (m2 : m ≤ 1000000) (d1 : 1 ≤ d) (d2 : d ≤ 1000000) : ∀ u ∈ US3 m d, GoodU u := by
  intro u hu
  simp only [US3, List.mem_cons, List.not_mem_nil, or_false] at hu
  rcases hu with rfl | rfl
  · exact ⟨low_lit (by decide) (by decide) (by decide), by decide, by decide, by decide, by decide, by decide, by decide⟩
  · have L : Low ⟨#[117]⟩ := low_lit (by decide) (by decide) (by decide)
    exact ⟨L, m1, m2, (by decide : (-1000000000 : Int) ≤ 0), (by decide : (0 : Int) ≤ 1000000000), d1, d2⟩
theorem us3_u (m d : Int) : look (US3 m d) [117] = some (uu m d) := rfl
/-- the line -/
def lu (T : Nat) (x : Int) (p : Nat) : List UInt8 := Lib.decDigits T ++ 32 :: (rt x p ++ 32 :: [117])
theorem lu_no (T : Nat) (x : Int) (p : Nat) : (10 : UInt8) ∉ lu T x p := by
  intro h
  unfold lu at h
  rcases List.mem_append.1 h with h | h
  · exact no10 ((dec_facts T).1 10 h)
  · rcases List.mem_cons.1 h with h | h
    · exact absurd h (by decide)
    · rcases List.mem_append.1 h with h | h
      · exact rt_no x p 10 (by decide) (by decide) no10 h
      · exact absurd h (by decide)
theorem lu_ok (T : Nat) (x : Int) (p : Nat) : ¬ (lu T x p = [] ∨ (lu T x p).head? = some 35) := by
  obtain ⟨c, r, e, hc⟩ : ∃ c r, lu T x p = c :: r ∧ c ∈ Lib.decDigits T := by
    rcases hq : Lib.decDigits T with _ | ⟨c, r⟩
    · have h1 := Lib.decDigits_length T
      have h2 := Lib.nDigits_pos T
      rw [hq] at h1; simp at h1; omega
    · exact ⟨c, r ++ 32 :: (rt x p ++ 32 :: [117]), by unfold lu; rw [hq]; rfl, by simp⟩
  rw [e]
  intro h
  rcases h with h | h
  · simp at h
  · simp at h
    have h' := (dec_facts T).1 c hc
    rw [h] at h'; exact absurd h' (by unfold isD; decide)
theorem line_lu (m d : Int) (T : Nat) (hT : T ≤ 1099511627776) (x : Int) (p : Nat) (h0 : -1000000000 ≤ x) (h1 : x ≤ 1000000000) (hp : p ≤ 6) :
    lineS (US3 m d) (lu T x p) = if smp (cv x p (uu m d)) = true then (((T : Int), cv x p (uu m d)), 0) else (((T : Int), 0), 12) := by
  have hpre := rt_pre x p
  obtain ⟨b1, b2, b3, b4⟩ := prs_inv (rt_back x p h0 h1 hp)
  unfold lineS
  rw [show lu T x p = Lib.decDigits T ++ 32 :: (rt x p ++ 32 :: [117]) from rfl, sp_three _ _ _ (fun h => no32 ((dec_facts T).1 32 h)) (rt_no x p 32 (by decide) (by decide) no32) (by decide)]
  simp only
  unfold line3
  rw [if_neg (by rw [isT_dec T hT]; simp), hpre.1, hpre.2, if_neg (by rw [b1]; simp), (dec_facts T).2.1, if_neg (by omega), if_neg b2, us3_u]
  simp only
  rw [b3, b4]
/-- the text -/
theorem run_lu (m d : Int) (T : Nat) (hT : T ≤ 1099511627776) (x : Int) (p : Nat) (h0 : -1000000000 ≤ x) (h1 : x ≤ 1000000000) (hp : p ≤ 6) :
    run (US3 m d) (lns (lu T x p ++ [10])) 1 [] = if smp (cv x p (uu m d)) = true then ([((T : Int), cv x p (uu m d))], 0, 0) else ([], 1, 12) := by
  rw [lns_line _ _ (lu_no T x p), lns_nil]
  have hl := line_lu m d T hT x p h0 h1 hp
  by_cases hs : smp (cv x p (uu m d)) = true
  · rw [if_pos hs] at hl ⊢
    rw [run_good _ _ _ _ _ (lu_ok T x p) (by rw [hl]) (by simp), hl]; rfl
  · rw [if_neg hs] at hl ⊢
    rw [run_bad _ _ _ _ _ (lu_ok T x p) (by rw [hl]; exact (by decide : (12 : Int) ≠ 0)), hl]
theorem parse_us (m d : Int) (m1 : 1 ≤ m) (m2 : m ≤ 1000000) (d1 : 1 ≤ d) (d2 : d ≤ 1000000) (s : ByteArray) (hs : s.size ≤ 16384) {l : List Rp} {k : Nat} {er : Int} (hr : run (US3 m d) (lns s.data.toList) 1 [] = (l, k, er)) (h : Nat) (w : World) (hZ : Zu w h (US3 m d)) (hP : Pows w) :
    Calls Tryd.prog 7 #[.string s, .slice (some ⟨h, 0, none⟩) 2 2] w (Par l k er w) := by
  refine (parse_go s hs (US3 m d) (us3_good m1 m2 d1 d2) (by show [[114, 97, 119], [117]].Nodup; decide) 2 2 h rfl (by decide) w hZ hP).mono ?_
  rintro e w' ⟨l', k', er', v, h1, h2, h3, h4⟩
  rw [hr] at h1
  cases h1
  exact ⟨v, h2, h3, h4⟩
/-- the reference's conversion -/
theorem conv_u (x : Int) (p : Nat) (h0 : -1000000000 ≤ x) (h1 : x ≤ 1000000000) (hp : p ≤ 6) (m d : Int) (m1 : 1 ≤ m) (m2 : m ≤ 1000000) (d1 : 1 ≤ d) (d2 : d ≤ 1000000) (w : World) :
    Calls Tryd.prog 4 #[.agg #[.int .i64 x, .int .i64 (p : Int)], .agg #[.string ⟨#[117]⟩, .int .i64 m, .int .i64 0, .int .i64 d]] w fun e w' => e = .returned (if smp (cv x p (uu m d)) = true then .tuple #[.int .i64 (cv x p (uu m d)), .int .i64 0] else .tuple #[.int .i64 0, .int .i64 12]) ∧ Bel w w' := by
  have hb := pow_bd hp
  have := rconvert_any x p (10 ^ p) ⟨#[117]⟩ m 0 d h0 h1 hp hb.1 hb.2 (low_lit (by decide) (by decide) (by decide)) m1 m2 (by decide) (by decide) d1 d2 w rfl
  exact this
end Go.Proofs.YtagodfielmdfhaaDoor.Rt
