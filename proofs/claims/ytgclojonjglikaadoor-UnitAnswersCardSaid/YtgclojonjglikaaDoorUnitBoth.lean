/- unit's Convert and Valid return what the reference's do, for any decimals and units. -/
import Derived.Test.YtgclojonjglikaaDoorUnitRefC
import Derived.Test.YtgclojonjglikaaDoorUnitAwake
namespace Go.Proofs.YtgclojonjglikaaDoor.Un
open Go.ChangeShapes Go.WideShapes Go.RowKit Wo
set_option linter.unusedVariables false
theorem both_valid (s : ByteArray) (m a d : Int) (hs : s.size ≤ 1000) : ∃ b : Bool,
    (∀ W, Calls Tryd.prog 12 #[.agg #[.string s, .int .i64 m, .int .i64 a, .int .i64 d]] W fun e w' => e = .returned (.bool b) ∧ Bel W w') ∧
    (∀ W, Calls Tryd.prog 13 #[.agg #[.string s, .int .i64 m, .int .i64 a, .int .i64 d]] W fun e w' => e = .returned (.bool b) ∧ Bel W w') := by
  rcases Classical.em (UOk s m a d) with h | h
  · refine ⟨true, fun W => ?_, fun W => ?_⟩
    · exact (uvalid_any s m a d hs W).mono fun e w' ⟨k, hb⟩ => ⟨by rcases k with k | k; exact k.1; exact absurd h k.2, hb⟩
    · exact (rvalid_any s m a d hs W).mono fun e w' ⟨k, hb⟩ => ⟨by rcases k with k | k; exact k.1; exact absurd h k.2, hb⟩
  · refine ⟨false, fun W => ?_, fun W => ?_⟩
    · exact (uvalid_any s m a d hs W).mono fun e w' ⟨k, hb⟩ => ⟨by rcases k with k | k; exact absurd k.2 h; exact k.1, hb⟩
    · exact (rvalid_any s m a d hs W).mono fun e w' ⟨k, hb⟩ => ⟨by rcases k with k | k; exact absurd k.2 h; exact k.1, hb⟩
theorem both_convert (x p : Int) (s : ByteArray) (m a d : Int) (hs : s.size ≤ 1000) : ∃ N E : Int,
    (∀ W, Pows W → Calls Tryd.prog 10 #[.agg #[.int .i64 x, .int .i64 p], .agg #[.string s, .int .i64 m, .int .i64 a, .int .i64 d]] W fun e w' => e = .returned (.tuple #[.int .i64 N, .int .i64 E]) ∧ Bel W w') ∧
    (∀ W, Calls Tryd.prog 11 #[.agg #[.int .i64 x, .int .i64 p], .agg #[.string s, .int .i64 m, .int .i64 a, .int .i64 d]] W fun e w' => e = .returned (.tuple #[.int .i64 N, .int .i64 E]) ∧ Bel W w') := by
  rcases Classical.em (DOk x p) with h | h
  · rcases Classical.em (UOk s m a d) with k | k
    · obtain ⟨x1, x2, p1, p2⟩ := h
      obtain ⟨q, rfl⟩ := Int.eq_ofNat_of_zero_le p1
      obtain ⟨hl, m1, m2, a1, a2, d1, d2⟩ := k
      have hb := pow_bd (show q ≤ 6 by omega)
      have key : ∃ N E : Int, cvt (x * m + a * 10 ^ q) (d * 10 ^ q) = .tuple #[.int .i64 N, .int .i64 E] := by
        unfold cvt
        split
        · exact ⟨_, _, rfl⟩
        · exact ⟨_, _, rfl⟩
      obtain ⟨N, E, hE⟩ := key
      refine ⟨N, E, fun W hW => ?_, fun W => ?_⟩
      · exact conv_as x q s m a d _ x1 x2 (by omega) hl m1 m2 a1 a2 d1 d2 hE W hW
      · have := rconvert_any x q (10 ^ q) s m a d x1 x2 (by omega) hb.1 hb.2 hl m1 m2 a1 a2 d1 d2 W rfl
        rwa [hE] at this
    · refine ⟨0, 7, fun W _ => ?_, fun W => ?_⟩
      · exact (uconv_bad x p s m a d hs (fun g => k g.2) W).mono fun e w' ⟨g, hb⟩ => ⟨by rcases g with g | g; exact absurd h g.2; exact g.1, hb⟩
      · exact (rconv_bad x p s m a d hs (fun g => k g.2) W).mono fun e w' ⟨g, hb⟩ => ⟨by rcases g with g | g; exact absurd h g.2; exact g.1, hb⟩
  · refine ⟨0, 3, fun W _ => ?_, fun W => ?_⟩
    · exact (uconv_bad x p s m a d hs (fun g => h g.1) W).mono fun e w' ⟨g, hb⟩ => ⟨by rcases g with g | g; exact g.1; exact absurd g.2 h, hb⟩
    · exact (rconv_bad x p s m a d hs (fun g => h g.1) W).mono fun e w' ⟨g, hb⟩ => ⟨by rcases g with g | g; exact g.1; exact absurd g.2 h, hb⟩
end Go.Proofs.YtgclojonjglikaaDoor.Un
