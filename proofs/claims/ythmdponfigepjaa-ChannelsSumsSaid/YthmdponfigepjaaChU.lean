/- The cost of a pair in all channels: channels.Together$1. -/
import Derived.Test.YthmdponfigepjaaChQ
namespace Go.Proofs.Ythmdponfigepjaa.Ch
open Go.ChangeShapes Go.WideShapes Go.RowKit Wo Sr Wi Nr
set_option linter.unusedVariables false
/-- the cost of a pair in the first channels -/
def fs (Ls Ms : Nat → List Int) : Nat → Nat → Nat → Int
  | 0 => fun _ _ => 0
  | c + 1 => fun i j => fs Ls Ms c i j + cst (Ls c) (Ms c) i j
theorem fs_in {Ls Ms : Nat → List Int} : ∀ q, (∀ c, c < q → Sam (Ls c) ∧ Sam (Ms c)) → ∀ i j, 0 ≤ fs Ls Ms q i j ∧ fs Ls Ms q i j ≤ 4000000 * (q : Int)
  | 0, _, i, j => by show (0 : Int) ≤ 0 ∧ (0 : Int) ≤ _; omega
  | q + 1, h, i, j => by
    have h1 := fs_in q (fun c hc => h c (by omega)) i j
    have h2 := cst_in (h q (by omega)).1 (h q (by omega)).2 i j
    show 0 ≤ fs Ls Ms q i j + _ ∧ fs Ls Ms q i j + _ ≤ _
    omega
set_option maxHeartbeats 8000000 in
set_option maxRecDepth 100000 in
theorem together1_ok (bx by_ g1 g2 q n m c1 c2 : Nat) (As Bs : Nat → Option Addr) (cs ds : Nat → Nat) (Ls Ms : Nat → List Int) (q4 : q ≤ 4) (i j : Nat) (hi : i < n) (hj : j < m) (n32 : n ≤ 32) (m32 : m ≤ 32) (w : World)
    (kx : w.cell? ⟨bx, 0, none⟩ = some (.slice (some ⟨g1, 0, none⟩) q c1)) (ky : w.cell? ⟨by_, 0, none⟩ = some (.slice (some ⟨g2, 0, none⟩) q c2)) (hX : Bun w g1 q n As cs Ls) (hY : Bun w g2 q m Bs ds Ms) :
    Calls Try.prog 42 #[.int .i64 (i : Int), .int .i64 (j : Int), .pointer (some ⟨bx, 0, none⟩), .pointer (some ⟨by_, 0, none⟩)] w fun e w' => e = .returned (.int .i64 (fs Ls Ms q i j)) ∧ Bel w w' := by
  have HX := Lib.hid hX
  have HY := Lib.hid hY
  have HKX := Lib.hid kx
  have HKY := Lib.hid ky
  have i2 : (i : Int) < (n : Int) := by omega
  have i3 : (j : Int) < (m : Int) := by omega
  have i4 : (q : Int) ≤ 4 := by omega
  have i5 : (n : Int) ≤ 32 := by omega
  have i6 : (m : Int) ≤ 32 := by omega
  have FI : Hid (∀ t, t ≤ q → 0 ≤ fs Ls Ms t i j ∧ fs Ls Ms t i j ≤ 4000000 * (t : Int)) := fun t ht => fs_in t (fun c hc => ⟨(hX.2 c (by omega)).2.2, (hY.2 c (by omega)).2.2⟩) i j
  clear hX hY ky
  go_enter Try.func42, Try.ntmps42
  go_wp2
  go_loopw [7, 11] (fun s7 s11 wr => ∃ (t : Nat) (V : World), V = wr ∧ t ≤ q ∧ s7 = .int .i64 (fs Ls Ms t i j) ∧ s11 = .int .i64 (t : Int) ∧ Bel w wr) (fun _ s11 _ => q - (intOf s11).toNat)
  case atStart => exact ⟨0, _, rfl, by omega, rfl, rfl, Bel.rf⟩
  case round =>
    obtain ⟨t, wr, hwr, ht, rfl, rfl, hb⟩ := hrel
    subst hwr
    have HB := Lib.hid hb
    clear hb kx
    rcases Nat.lt_or_ge t q with hlt | hge
    · have ti : (t : Int) < (q : Int) := by omega
      obtain ⟨k1, z1, s1⟩ := (HX.out.bel HB.out).2 t hlt
      obtain ⟨k2, z2, s2⟩ := (HY.out.bel HB.out).2 t hlt
      obtain ⟨a1, e1, _, h1⟩ := z1.2 (by omega)
      obtain ⟨a2, e2, _, h2⟩ := z2.2 (by omega)
      have k3 := h1 i hi
      have k4 := h2 j hj
      have b1 := s1.at i
      have b2 := s2.at j
      rw [e1] at k1
      rw [e2] at k2
      have HF : Hid (fs Ls Ms (t + 1) i j = fs Ls Ms t i j + cst (Ls t) (Ms t) i j) := rfl
      have f1 := FI.out t ht
      have f2 := FI.out (t + 1) hlt
      unfold cst at HF
      obtain ⟨x, hx⟩ : ∃ x, (Ls t).getD i 0 = x := ⟨_, rfl⟩
      obtain ⟨y, hy⟩ : ∃ y, (Ms t).getD j 0 = y := ⟨_, rfl⟩
      rw [hx] at k3 b1 HF
      rw [hy] at k4 b2 HF
      obtain ⟨d, hd⟩ : ∃ d, x - y = d := ⟨_, rfl⟩
      have SQ : Hid (∀ W, _) := fun W => square_ok d (by omega) (by omega) W
      have hsq := sq_bd (B := 2000) (x := d) (by omega) (by omega)
      have wd : IntKind.i64.wrap d = d := IntWalk.i64_in _ ⟨by omega, by omega⟩
      rw [hd] at HF
      obtain ⟨u, hu⟩ : ∃ u, d * d = u := ⟨_, rfl⟩
      rw [hu] at HF SQ hsq
      obtain ⟨v, hv⟩ : ∃ v, fs Ls Ms t i j = v := ⟨_, rfl⟩
      rw [hv] at HF f1 ⊢
      have wv : IntKind.i64.wrap (v + u) = v + u := IntWalk.i64_in _ ⟨by omega, by omega⟩
      have k5 := HB.out.kp HKX.out
      have k6 := HB.out.kp HKY.out
      have KS : Hid (∀ W', Bel wr W' → ((fun w' => w'.cell? ⟨bx, 0, none⟩ = some (.slice (some ⟨g1, 0, none⟩) q c1) ∧ w'.cell? ⟨by_, 0, none⟩ = some (.slice (some ⟨g2, 0, none⟩) q c2) ∧ w'.cell? ⟨g1, t, none⟩ = some (.slice (some a1) n (cs t)) ∧ w'.cell? ⟨g2, t, none⟩ = some (.slice (some a2) m (ds t)) ∧ w'.cell? (a1.add i) = some (.int .i64 x) ∧ w'.cell? (a2.add j) = some (.int .i64 y)) W')) :=
        fun W' h => ⟨h.kp k5, h.kp k6, h.kp k1, h.kp k2, h.kp k3, h.kp k4⟩
      clear k1 k2 k3 k4 k5 k6 z1 z2 s1 s2 h1 h2 hx hy b1 b2 e1 e2 f1 f2 hsq hu hv
      go_wp2_with fail
      go_region_held3 (fun w' => w'.cell? ⟨bx, 0, none⟩ = some (.slice (some ⟨g1, 0, none⟩) q c1) ∧ w'.cell? ⟨by_, 0, none⟩ = some (.slice (some ⟨g2, 0, none⟩) q c2) ∧ w'.cell? ⟨g1, t, none⟩ = some (.slice (some a1) n (cs t)) ∧ w'.cell? ⟨g2, t, none⟩ = some (.slice (some a2) m (ds t)) ∧ w'.cell? (a1.add i) = some (.int .i64 x) ∧ w'.cell? (a2.add j) = some (.int .i64 y))
        (exact KS.out _ (by repeat (first | exact Bel.rf | (with_reducible refine Bel.drwN ?_ _) | (with_reducible refine Bel.drw ?_) | (refine Bel.tr ?_ (by assumption)))))
        ((go_at_call 40; refine (SQ.out _).mono ?_; rintro r s4 ⟨rfl, rfl⟩))
      all_goals
        go_wp2
        go_roundw
        case rel => exact ⟨t + 1, _, rfl, by omega, by rw [HF.out], by go_num, by first | exact HB.out | exact HB.out.drw | exact HB.out.drwN _⟩
        case measure => simp [intOf]; omega
    · obtain rfl : t = q := by omega
      go_wp2
      go_ret
      exact ⟨rfl, HB.out⟩
end Go.Proofs.Ythmdponfigepjaa.Ch
