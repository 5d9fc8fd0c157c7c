/- The contract of the reference of layer 14: Check, and Distance by what Costs does. -/
import Derived.Test.YthmdponfigepjaaR14e
import Derived.Test.YthmdponfigepjaaRef12c
namespace Go.Proofs.Ythmdponfigepjaa.R14
open Go.ChangeShapes Go.WideShapes Go.RowKit Wo Sr Wi Eu Ev
set_option linter.unusedVariables false
theorem two_any (A A' : Option Addr) (c c' n m : Nat) (b : Int) (L M : List Int) (n1 : 2 ≤ n) (n2 : n ≤ 32) (m1 : 2 ≤ m) (m2 : m ≤ 32) (d1 : (n : Int) - (m : Int) ≤ b) (d2 : (m : Int) - (n : Int) ≤ b) (hs : Sam L) (ht : Sam M) (w : World) (h1 : Zi w A n L) (h2 : Zi w A' m M) :
    Calls Try.prog 63 #[.slice A n c, .slice A' m c', .int .i64 b] w fun e w' => e = .returned (.int .i64 0) ∧ Bel w w' := by
  have i1 : 2 ≤ (n : Int) := by omega
  have i2 : (n : Int) ≤ 32 := by omega
  have i3 : 2 ≤ (m : Int) := by omega
  have i4 : (m : Int) ≤ 32 := by omega
  have S1 : Hid (∀ W, Bel w W → _) := fun W hW => R12.rsamples_ok A c n L (by omega) hs W (h1.bel hW)
  have S2 : Hid (∀ W, Bel w W → _) := fun W hW => R12.rsamples_ok A' c' m M (by omega) ht W (h2.bel hW)
  clear h1 h2 hs ht
  go_enter Try.func63, Try.ntmps63
  go_wp2_with fail
  go_at_call 76
  refine (S1.out _ Bel.rf).mono ?_
  rintro e w1 ⟨rfl, hb1⟩
  go_wp2_with fail
  go_at_call 76
  refine (S2.out _ hb1).mono ?_
  rintro e w2 ⟨rfl, hb2⟩
  go_wp2
  go_ret
  exact ⟨rfl, hb1.tr hb2⟩
theorem check_ok (A A' : Option Addr) (c c' n m : Nat) (b : Int) (L M : List Int) (n1 : 2 ≤ n) (n2 : n ≤ 32) (m1 : 2 ≤ m) (m2 : m ≤ 32) (b0 : 0 ≤ b) (b1 : b ≤ 32) (d1 : (n : Int) - (m : Int) ≤ b) (d2 : (m : Int) - (n : Int) ≤ b) (hs : Sam L) (ht : Sam M) (w : World) (h1 : Zi w A n L) (h2 : Zi w A' m M) :
    Calls Try.prog 43 #[.slice A n c, .slice A' m c', .int .i64 b] w fun e w' => e = .returned (.int .i64 0) ∧ Bel w w' := by
  have S1 : Hid (∀ W, Bel w W → _) := fun W hW => two_any A A' c c' n m b L M n1 n2 m1 m2 d1 d2 hs ht W (h1.bel hW) (h2.bel hW)
  clear h1 h2 hs ht
  go_enter Try.func43, Try.ntmps43
  go_wp2_with fail
  go_at_call 63
  refine (S1.out _ Bel.rf).mono ?_
  rintro e w1 ⟨rfl, hb1⟩
  go_wp2
  go_ret
  exact ⟨rfl, hb1⟩
set_option maxHeartbeats 4000000 in
theorem distance_of (hx hy c c' n m : Nat) (b : Int) (X Y : List Int) (n1 : 2 ≤ n) (n2 : n ≤ 32) (m1 : 2 ≤ m) (m2 : m ≤ 32) (b0 : 0 ≤ b) (b1 : b ≤ 32) (d1 : (n : Int) - (m : Int) ≤ b) (d2 : (m : Int) - (n : Int) ≤ b) (hs : Sam X) (ht : Sam Y) (w : World) (h1 : Zi w (some ⟨hx, 0, none⟩) n X) (h2 : Zi w (some ⟨hy, 0, none⟩) m Y)
    (hC : ∀ W, Bel w W → Calls Try.prog 45 #[.slice (some ⟨hx, 0, none⟩) n c, .slice (some ⟨hy, 0, none⟩) m c'] W fun e w' => ∃ h, e = .returned (.slice (some ⟨h, 0, none⟩) n n) ∧ TR w' h n m (crow X Y m) ∧ Bel W w') :
    Calls Try.prog 21 #[.slice (some ⟨hx, 0, none⟩) n c, .slice (some ⟨hy, 0, none⟩) m c', .int .i64 b] w fun e w' => e = .returned (.tuple #[.int .i64 (wt X Y b n m), .int .i64 0]) ∧ Bel w w' := by
  obtain ⟨k, rfl⟩ : ∃ k, n = k + 1 := ⟨n - 1, by omega⟩
  obtain ⟨l, rfl⟩ : ∃ k, m = k + 1 := ⟨m - 1, by omega⟩
  have i1 : 2 ≤ ((k + 1 : Nat) : Int) := by omega
  have i2 : ((k + 1 : Nat) : Int) ≤ 32 := by omega
  have i3 : 2 ≤ ((l + 1 : Nat) : Int) := by omega
  have i4 : ((l + 1 : Nat) : Int) ≤ 32 := by omega
  have S1 : Hid (∀ W, Bel w W → _) := fun W hW => check_ok (some ⟨hx, 0, none⟩) (some ⟨hy, 0, none⟩) c c' (k+1) (l+1) b X Y n1 n2 m1 m2 b0 b1 d1 d2 hs ht W (h1.bel hW) (h2.bel hW)
  have S2 := Lib.hid hC
  have S3 : Hid (∀ W g, TR W g (k+1) (l+1) (crow X Y (l+1)) → _) := fun W g hr => fill_ok g (k+1) (k+1) (l+1) b X Y (by omega) n2 (by omega) m2 b0 b1 hs ht W hr
  have HB : Hid (Bnd b k l) := by show Bnd b k l; unfold Bnd; constructor <;> omega
  clear h1 h2 hs ht hC
  go_enter Try.func21, Try.ntmps21
  go_wp2_with fail
  go_at_call 43
  refine (S1.out _ Bel.rf).mono ?_
  rintro e w1 ⟨rfl, hb1⟩
  go_wp2_with fail
  go_at_call 45
  refine (S2.out _ hb1).mono ?_
  rintro e w2 ⟨g, rfl, hr, hb2⟩
  go_wp2_with fail
  go_at_call 44
  refine (S3.out _ g hr).mono ?_
  rintro e w3 ⟨h, rr, R, rfl, htw, hdon, hb3⟩
  have c1 := htw.at' k (by omega)
  have c2 := (zi_bk (htw.bk k (by omega)) (l + 1) (htw.len k (by omega))).at l (by omega)
  rw [hdon k l (Or.inl (by omega)) (by omega) HB.out] at c2
  have HBB := Lib.hid (hb1.tr (hb2.tr hb3))
  clear htw hdon hb1 hb2 hb3 hr
  go_wp2
  go_ret2
  exact ⟨rfl, HBB.out⟩
end Go.Proofs.Ythmdponfigepjaa.R14
