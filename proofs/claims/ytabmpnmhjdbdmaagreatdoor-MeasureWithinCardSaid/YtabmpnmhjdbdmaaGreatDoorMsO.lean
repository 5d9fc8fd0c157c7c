/- The five distances as measure.Distance returns them; the shifted distance is at most the Euclidean one. -/
import Derived.Test.YtabmpnmhjdbdmaaGreatDoorMsAw
import Derived.Test.YtabmpnmhjdbdmaaGreatDoorNor
import Derived.Test.YtabmpnmhjdbdmaaGreatDoorRef01
import Derived.Test.YtabmpnmhjdbdmaaGreatDoorNear
namespace Go.Proofs.YtabmpnmhjdbdmaaGreatDoor.Ms
open Go.ChangeShapes Go.WideShapes Go.RowKit Wo Sr Wi Ra Rr
set_option linter.unusedVariables false
theorem eu_bd {L N : List Int} {n : Nat} (n2 : n ≤ 32) (hl : L.length = n) (hm : N.length = n) (hs : Sam L) (ht : Sam N) : 0 ≤ su sq (df L N) ∧ su sq (df L N) ≤ 128000000 := by
  have b := susq_bd (df_bd (A := 1000) (B := 1000) hs ht)
  have e : (df L N).length = n := by rw [df_len (by omega)]; exact hl
  rw [e] at b
  obtain ⟨b1, b2⟩ := b
  have b3 : ((1000 + 1000) * (1000 + 1000) : Int) * (n : Int) = 4000000 * (n : Int) := by rfl
  rw [b3] at b2
  omega
theorem one_rv {S : Int} (h0 : 0 ≤ S) (h1 : S ≤ 2305843009213693952) : RV S 1 := ⟨⟨h0, h1, by decide, by decide⟩, gd_one S⟩
/-- the shifted distance -/
def shv (L N : List Int) (n : Nat) : Int × Int := (vr (df L N) / gd (vr (df L N)) n, (n : Int) / gd (vr (df L N)) n)
theorem sh_facts {L N : List Int} {n : Nat} (n1 : 2 ≤ n) (n2 : n ≤ 32) (hl : L.length = n) (hm : N.length = n) (hs : Sam L) (ht : Sam N) : RV (shv L N n).1 (shv L N n).2 ∧ (shv L N n).1 * 1 ≤ su sq (df L N) * (shv L N n).2 := by
  have e : (df L N).length = n := by rw [df_len (by omega)]; exact hl
  have v0 := vr_nn (df L N)
  have b := eu_bd n2 hl hm hs ht
  have v1 : vr (df L N) ≤ su sq (df L N) * (n : Int) := by
    have h : vr (df L N) = (n : Int) * su sq (df L N) - su ix (df L N) * su ix (df L N) := by unfold vr; rw [e]
    have := sq_nn (su ix (df L N))
    rw [h, Int.mul_comm]
    omega
  have vb : vr (df L N) ≤ 4096000000 := by
    have := Int.mul_le_mul_of_nonneg_right b.2 (show (0 : Int) ≤ (n : Int) by omega)
    omega
  have f := make_facts (n := vr (df L N)) (d := (n : Int)) v0 (by omega) (by omega) (by omega)
  refine ⟨f.2.2.2.2.2.2.1, ?_⟩
  show vr (df L N) / gd (vr (df L N)) n * 1 ≤ su sq (df L N) * ((n : Int) / gd (vr (df L N)) n)
  have h8 := f.2.2.2.2.2.2.2
  have h3 : (0 : Int) ≤ (n : Int) / gd (vr (df L N)) n := by have := f.2.2.1; omega
  have hm := Int.mul_le_mul_of_nonneg_right v1 h3
  have key : vr (df L N) / gd (vr (df L N)) n * 1 * (n : Int) ≤ su sq (df L N) * ((n : Int) / gd (vr (df L N)) n) * (n : Int) := by
    rw [Int.mul_one, h8]
    refine Int.le_trans hm ?_
    rw [Int.mul_assoc, Int.mul_comm (n : Int), ← Int.mul_assoc]
    exact Int.le_refl _
  exact Int.le_of_mul_le_mul_right key (by omega)
theorem dist_euc (A A' : Option Addr) (c c' n : Nat) (L N : List Int) (n1 : 2 ≤ n) (n2 : n ≤ 32) (hs : Sam L) (ht : Sam N) (w : World) (h1 : Zi w A n L) (h2 : Zi w A' n N) :
    Calls Tryz.prog 8 #[.agg #[.int .i64 1, .int .i64 0, .int .i64 0], .slice A n c, .slice A' n c'] w fun e w' => e = .returned (.tuple #[.agg #[.int .i64 (su sq (df L N)), .int .i64 1], .int .i64 0]) ∧ Bel w w' := by
  have b := eu_bd n2 h1.1 h2.1 hs ht
  exact dist1 0 0 A A' c c' n n _ _ (.inl ⟨.inl rfl, rfl, rfl⟩) w (fun W gc hW hg =>
    clos1 A A' c c' n n L N _ W (h1.bel hW) (h2.bel hW) (fun V hV => Eu.distance_ok A A' c c' n L N n1 n2 hs ht V (h1.bel (hW.tr hV)) (h2.bel (hW.tr hV))) b.1 (by omega))
theorem dist_sh (A A' : Option Addr) (c c' n : Nat) (L N : List Int) (n1 : 2 ≤ n) (n2 : n ≤ 32) (hs : Sam L) (ht : Sam N) (w : World) (h1 : Zi w A n L) (h2 : Zi w A' n N) :
    Calls Tryz.prog 8 #[.agg #[.int .i64 2, .int .i64 0, .int .i64 0], .slice A n c, .slice A' n c'] w fun e w' => e = .returned (.tuple #[.agg #[.int .i64 (shv L N n).1, .int .i64 (shv L N n).2], .int .i64 0]) ∧ Bel w w' :=
  dist2 0 0 A A' c c' n n _ _ (.inl ⟨.inr (.inl rfl), rfl, rfl⟩) w (fun W gc hW hg => Eu.shifted_ok A A' c c' n L N n1 n2 hs ht W (h1.bel hW) (h2.bel hW))
theorem dist_nor (A A' : Option Addr) (c c' n : Nat) (L N : List Int) (n1 : 2 ≤ n) (n2 : n ≤ 32) (hs : Sam L) (ht : Sam N) (w : World) (h1 : Zi w A n L) (h2 : Zi w A' n N) :
    Calls Tryz.prog 8 #[.agg #[.int .i64 3, .int .i64 0, .int .i64 0], .slice A n c, .slice A' n c'] w fun e w' => e = .returned (.tuple #[.agg #[.int .i64 (rN (vr L) (vr N) (pr L N)), .int .i64 (rD (vr L) (vr N) (pr L N))], .int .i64 0]) ∧ Bel w w' :=
  dist3 0 0 A A' c c' n n _ _ (.inl ⟨.inr (.inr rfl), rfl, rfl⟩) w (fun W gc hW hg => Nr.Gap_ok A A' c c' n L N n1 n2 hs ht W (h1.bel hW) (h2.bel hW))
theorem dist_wp (A A' : Option Addr) (c c' n m : Nat) (L N : List Int) (b : Int) (n1 : 2 ≤ n) (n2 : n ≤ 32) (m1 : 2 ≤ m) (m2 : m ≤ 32) (b0 : 0 ≤ b) (b32 : b ≤ 32) (b1 : (n : Int) - (m : Int) ≤ b) (b2 : (m : Int) - (n : Int) ≤ b) (hs : Sam L) (ht : Sam N) (w : World) (h1 : Zi w A n L) (h2 : Zi w A' m N) :
    Calls Tryz.prog 8 #[.agg #[.int .i64 4, .int .i64 b, .int .i64 0], .slice A n c, .slice A' m c'] w fun e w' => e = .returned (.tuple #[.agg #[.int .i64 (wt L N b n m), .int .i64 1], .int .i64 0]) ∧ Bel w w' := by
  obtain ⟨i, hi⟩ : ∃ i, n = i + 1 := ⟨n - 1, by omega⟩
  obtain ⟨j, hj⟩ : ∃ i, m = i + 1 := ⟨m - 1, by omega⟩
  have f := wt_fin hs ht b0 (i + j) i j rfl ⟨by omega, by omega⟩
  rw [← hi, ← hj] at f
  exact dist_warp A A' c c' n m L N b n1 n2 m1 m2 b0 b32 b1 b2 hs ht w h1 h2 f.1 (by omega)
end Go.Proofs.YtabmpnmhjdbdmaaGreatDoor.Ms
