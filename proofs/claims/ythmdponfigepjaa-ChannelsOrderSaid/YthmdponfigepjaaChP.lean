/- The cost of a pair: channels.Apart$1. -/
import Derived.Test.YthmdponfigepjaaChL
namespace Go.Proofs.Ythmdponfigepjaa.Ch
open Go.ChangeShapes Go.WideShapes Go.RowKit Wo Sr Wi Nr
set_option linter.unusedVariables false
set_option maxHeartbeats 8000000 in
set_option maxRecDepth 100000 in
theorem apart1_ok (bx bc by_ g1 g2 q n m c1 c2 c : Nat) (As Bs : Nat → Option Addr) (cs ds : Nat → Nat) (Ls Ms : Nat → List Int) (hc : c < q) (q4 : q ≤ 4) (i j : Nat) (hi : i < n) (hj : j < m) (n32 : n ≤ 32) (m32 : m ≤ 32) (w : World)
    (kx : w.cell? ⟨bx, 0, none⟩ = some (.slice (some ⟨g1, 0, none⟩) q c1)) (kc : w.cell? ⟨bc, 0, none⟩ = some (.int .i64 (c : Int))) (ky : w.cell? ⟨by_, 0, none⟩ = some (.slice (some ⟨g2, 0, none⟩) q c2)) (hX : Bun w g1 q n As cs Ls) (hY : Bun w g2 q m Bs ds Ms) :
    Calls Try.prog 39 #[.int .i64 (i : Int), .int .i64 (j : Int), .pointer (some ⟨bx, 0, none⟩), .pointer (some ⟨bc, 0, none⟩), .pointer (some ⟨by_, 0, none⟩)] w fun e w' => e = .returned (.int .i64 (cst (Ls c) (Ms c) i j)) ∧ Bel w w' := by
  obtain ⟨k1, z1, s1⟩ := hX.2 c hc
  obtain ⟨k2, z2, s2⟩ := hY.2 c hc
  obtain ⟨a1, e1, _, h1⟩ := z1.2 (by omega)
  obtain ⟨a2, e2, _, h2⟩ := z2.2 (by omega)
  have k3 := h1 i hi
  have k4 := h2 j hj
  have b1 := s1.at i
  have b2 := s2.at j
  rw [e1] at k1
  rw [e2] at k2
  unfold cst
  obtain ⟨x, hx⟩ : ∃ x, (Ls c).getD i 0 = x := ⟨_, rfl⟩
  obtain ⟨y, hy⟩ : ∃ y, (Ms c).getD j 0 = y := ⟨_, rfl⟩
  rw [hx] at k3 b1 ⊢
  rw [hy] at k4 b2 ⊢
  obtain ⟨d, hd⟩ : ∃ d, x - y = d := ⟨_, rfl⟩
  have SQ : Hid (∀ W, _) := fun W => square_ok d (by omega) (by omega) W
  have i1 : (c : Int) < (q : Int) := by omega
  have i2 : (i : Int) < (n : Int) := by omega
  have i3 : (j : Int) < (m : Int) := by omega
  have i4 : (q : Int) ≤ 4 := by omega
  have i5 : (n : Int) ≤ 32 := by omega
  have i6 : (m : Int) ≤ 32 := by omega
  have wd : IntKind.i64.wrap d = d := IntWalk.i64_in _ ⟨by omega, by omega⟩
  rw [hd]
  have KS : Hid (∀ W', Bel w W' → ((fun w' => w'.cell? ⟨bx, 0, none⟩ = some (.slice (some ⟨g1, 0, none⟩) q c1) ∧ w'.cell? ⟨bc, 0, none⟩ = some (.int .i64 (c : Int)) ∧ w'.cell? ⟨by_, 0, none⟩ = some (.slice (some ⟨g2, 0, none⟩) q c2) ∧ w'.cell? ⟨g1, c, none⟩ = some (.slice (some a1) n (cs c)) ∧ w'.cell? ⟨g2, c, none⟩ = some (.slice (some a2) m (ds c)) ∧ w'.cell? (a1.add i) = some (.int .i64 x) ∧ w'.cell? (a2.add j) = some (.int .i64 y)) W')) :=
    fun W' h => ⟨h.kp kx, h.kp kc, h.kp ky, h.kp k1, h.kp k2, h.kp k3, h.kp k4⟩
  clear kx kc ky k1 k2 k3 k4 hX hY z1 z2 s1 s2 h1 h2 hx hy b1 b2 e1 e2
  go_enter Try.func39, Try.ntmps39
  go_wp2_with fail
  go_region_held3 (fun w' => w'.cell? ⟨bx, 0, none⟩ = some (.slice (some ⟨g1, 0, none⟩) q c1) ∧ w'.cell? ⟨bc, 0, none⟩ = some (.int .i64 (c : Int)) ∧ w'.cell? ⟨by_, 0, none⟩ = some (.slice (some ⟨g2, 0, none⟩) q c2) ∧ w'.cell? ⟨g1, c, none⟩ = some (.slice (some a1) n (cs c)) ∧ w'.cell? ⟨g2, c, none⟩ = some (.slice (some a2) m (ds c)) ∧ w'.cell? (a1.add i) = some (.int .i64 x) ∧ w'.cell? (a2.add j) = some (.int .i64 y))
    (exact KS.out _ (by repeat (first | exact Bel.rf | (with_reducible refine Bel.drwN ?_ _) | (with_reducible refine Bel.drw ?_) | (refine Bel.tr ?_ (by assumption)))))
    ((go_at_call 40; refine (SQ.out _).mono ?_; rintro r s4 ⟨rfl, rfl⟩))
  all_goals
    go_wp2
    go_ret
    exact ⟨rfl, by repeat (first | exact Bel.rf | (with_reducible refine Bel.drwN ?_ _) | (with_reducible refine Bel.drw ?_) | (refine Bel.tr ?_ (by assumption)))⟩
end Go.Proofs.Ythmdponfigepjaa.Ch
