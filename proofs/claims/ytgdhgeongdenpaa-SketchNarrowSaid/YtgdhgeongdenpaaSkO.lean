/- sketch.Of, Upper, Gap of windows. -/
import Derived.Test.YtgdhgeongdenpaaSkS
namespace Go.Proofs.Ytgdhgeongdenpaa.Sk
open Go.ChangeShapes Go.WideShapes Go.RowKit Wo Sr Wi Nr Pc Eu Ra
set_option linter.unusedVariables false
theorem zi_far {w : World} {h n : Nat} {L : List Int} (hz : Zi w (some ⟨h, 0, none⟩) n L) {p : Addr} (hp : h ≠ p.block) (u : Value) : Zi (w.setCell p u) (some ⟨h, 0, none⟩) n L :=
  ⟨hz.1, fun hn => by
    obtain ⟨ad, e, hx, hcc⟩ := hz.2 hn
    refine ⟨ad, e, by simpa [World.setCell] using hx, fun j hj => ?_⟩
    refine (World.cell?_setCell_other _ _ _ _ (fun e2 => ?_)).trans (hcc j hj)
    cases e
    rw [add_row] at e2
    exact hp (by rw [e2])⟩
theorem cen_pb {X : List Int} {m n : Nat} (hs : Sam X) (hX : X.length = m) (m32 : m ≤ 32) (n1 : 1 ≤ n) : Pb (cen X) m n := fun k hk => by
  have := pls_bd (L := cen X) (m := m) (n := n) (Pc.cen_bd hs (by omega)) m32 n1 k hk
  rwa [pls_pa _ m n k hk] at this
set_option maxHeartbeats 8000000 in
set_option maxRecDepth 100000 in
theorem Of_ok (hx c m n : Nat) (X : List Int) (m2 : 2 ≤ m) (m32 : m ≤ 32) (n1 : 1 ≤ n) (n8 : n ≤ 8) (nm : n ≤ m) (mc : m ≤ c) (hs : Sam X) (w : World) (hz : Zi w (some ⟨hx, 0, none⟩) m X) :
    Calls Try.prog 27 #[.slice (some ⟨hx, 0, none⟩) m c, .int .i64 (n : Int)] w fun e w' => ∃ h c', e = .returned (.tuple #[skv h c' m n ((m : Int) * vr X), .int .i64 0]) ∧ n ≤ c' ∧ w.heap.size ≤ h ∧ Zi w' (some ⟨h, 0, none⟩) n (pls (cen X) m n) ∧ Bel w w' := by
  have CK : Hid (∀ W, Bel w W → _) := fun W hW => Cen_ok hx c m n X m2 m32 n1 n8 nm mc hs W (hz.bel hW)
  have VK : Hid (∀ W, Bel w W → Calls Try.prog 49 #[.slice (some ⟨hx, 0, none⟩) m c, .slice (some ⟨hx, 0, none⟩) m c] W fun e w' => e = .returned (.tuple #[.int .i64 (vr X), .int .i64 0]) ∧ Bel W w') := fun W hW => by
    rw [← pr_self]; exact Product_ok (some ⟨hx, 0, none⟩) (some ⟨hx, 0, none⟩) c c m X X m2 m32 hs hs W (hz.bel hW) (hz.bel hW)
  have v := vr_le hs (by rw [hz.1]; exact m32)
  obtain ⟨V, hV⟩ : ∃ x, vr X = x := ⟨_, rfl⟩
  rw [hV] at VK v
  rw [hV]
  obtain ⟨v0, v1⟩ := v
  have hb1 : (m : Int) * V ≤ 32 * 1024000000 := Int.mul_le_mul (by omega) v1 v0 (by omega)
  have hb0 : 0 ≤ (m : Int) * V := Int.mul_nonneg (by omega) v0
  obtain ⟨E, hE⟩ : ∃ x, (m : Int) * V = x := ⟨_, rfl⟩
  rw [hE] at hb0 hb1
  rw [hE]
  have wE : IntKind.i64.wrap ((m : Int) * V) = E := by rw [hE]; exact IntWalk.i64_in _ (by omega)
  have wE2 : wrap64 ((m : Int) * V) = E := by rw [hE]; exact IntWalk.wrap64_in _ (by omega)
  unfold skv
  have i3 : (m : Int) ≤ 32 := by omega
  clear hz hs hE hV
  go_enter Try.func27, Try.ntmps27
  have HB0 : Hid (Bel w (w.alloc (.cells #[.int .i64 0, .slice none 0 0, .int .i64 0] 64))) := Bel.rf.al _
  have HK0 : Hid (Bk (w.alloc (.cells #[.int .i64 0, .slice none 0 0, .int .i64 0] 64)) w.heap.size 64 #[.int .i64 0, .slice none 0 0, .int .i64 0]) := Bk.nw _ _ _
  go_wp2_with fail
  go_at_call 48
  refine (CK.out _ HB0.out).mono ?_
  rintro e w1 ⟨h1, c1, rfl, q1, q2, q3, hb⟩
  have HZ1 := Lib.hid (own_zi q3 (pls_len _ m n))
  have HB1 := Lib.hid (HB0.out.tr hb)
  have HK1 := Lib.hid (HK0.out.bel hb)
  have HQ : Hid (n ≤ c1 ∧ w.heap.size + 1 ≤ h1) := ⟨q1, by simpa using q2⟩
  clear hb q1 q2 q3
  go_wp2_with fail
  go_at_call 49
  refine (VK.out _ HB1.out).mono ?_
  rintro e w2 ⟨rfl, hb⟩
  have HZ2 := Lib.hid (HZ1.out.bel hb)
  have HB2 := Lib.hid (HB1.out.tr hb)
  have K2 := HK1.out.bel hb
  have l0 : w2.cell? ⟨w.heap.size, 0, none⟩ = some (.int .i64 0) := K2.cell 0
  have l1 : w2.cell? ⟨w.heap.size, 1, none⟩ = some (.slice none 0 0) := K2.cell 1
  have l2 : w2.cell? ⟨w.heap.size, 2, none⟩ = some (.int .i64 0) := K2.cell 2
  have j0 := K2.fr 0
  have j1 := K2.fr 1
  have j2 := K2.fr 2
  clear hb
  go_wp2
  refine bodyPost_ret (v := .tuple #[.agg #[.int .i64 (m : Int), .slice (some ⟨h1, 0, none⟩) n c1, .int .i64 E], .int .i64 0]) (by simp [results, Try.results27, go_sem, l0, l1, l2]) rfl ?_
  have hne : h1 ≠ w.heap.size := by have := HQ.out.2; omega
  exact ⟨h1, c1, rfl, HQ.out.1, by have := HQ.out.2; omega, zi_far (zi_far (zi_far HZ2.out hne _) hne _) hne _, ((HB2.out.st (Nat.le_refl _) _).st (Nat.le_refl _) _).st (Nat.le_refl _) _⟩
end Go.Proofs.Ytgdhgeongdenpaa.Sk
