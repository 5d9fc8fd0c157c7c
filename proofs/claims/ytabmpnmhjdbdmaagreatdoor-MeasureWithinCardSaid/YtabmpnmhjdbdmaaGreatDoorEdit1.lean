/- The contracts of whole.Abs, the reference's Abs, limits.Windows with a band of 32, edit.check, and the law's some. -/
import Derived.Test.YtabmpnmhjdbdmaaGreatDoorNear
import Derived.Test.YtabmpnmhjdbdmaaGreatDoorEditMath
namespace Go.Proofs.YtabmpnmhjdbdmaaGreatDoor.Ed
open Go.ChangeShapes Go.WideShapes Go.RowKit Wo Sr Wi
set_option linter.unusedVariables false
theorem abs_ok (n : Int) (h0 : -4611686018427387904 ≤ n) (h1 : n ≤ 4611686018427387904) (w : World) : Calls Tryz.prog 66 #[.int .i64 n] w fun e w' => e = .returned (.int .i64 (ab n)) ∧ w = w' := by
  unfold ab
  rcases Int.lt_trichotomy n 0 with h | rfl | h
  · rw [if_pos h]
    go_enter Tryz.func66, Tryz.ntmps66
    go_wp2
    go_ret
    exact ⟨rfl, rfl⟩
  · go_enter Tryz.func66, Tryz.ntmps66
    go_wp2
    go_ret
    exact ⟨rfl, rfl⟩
  · rw [if_neg (by omega)]
    go_enter Tryz.func66, Tryz.ntmps66
    go_wp2
    go_ret
    exact ⟨rfl, rfl⟩
set_option maxHeartbeats 4000000 in
theorem windows_ok (A A' : Option Addr) (c c' n m : Nat) (L M : List Int) (b : Int) (n1 : 2 ≤ n) (n2 : n ≤ 32) (m1 : 2 ≤ m) (m2 : m ≤ 32) (b1 : (n : Int) - (m : Int) ≤ b) (b2 : (m : Int) - (n : Int) ≤ b) (hs : Sam L) (ht : Sam M) (w : World) (h1 : Zi w A n L) (h2 : Zi w A' m M) :
    Calls Tryz.prog 48 #[.slice A n c, .slice A' m c', .int .i64 b] w fun e w' => e = .returned (.int .i64 0) ∧ Bel w w' := by
  have H1 := Lib.hid h1
  have H2 := Lib.hid h2
  have HS := Lib.hid hs
  have HT := Lib.hid ht
  have i1 : 2 ≤ (n : Int) := by omega
  have i2 : (n : Int) ≤ 32 := by omega
  have i3 : 2 ≤ (m : Int) := by omega
  have i4 : (m : Int) ≤ 32 := by omega
  clear h1 h2 hs ht
  go_enter Tryz.func48, Tryz.ntmps48
  go_wp2_with fail
  go_at_call 63
  refine (length_ok (n : Int) i1 i2 _).mono ?_
  rintro e v ⟨rfl, rfl⟩
  go_wp2_with fail
  go_at_call 63
  refine (length_ok (m : Int) i3 i4 _).mono ?_
  rintro e v ⟨rfl, rfl⟩
  go_wp2_with fail
  go_at_call 64
  refine (samples_ok A c n L (by omega) HS.out _ H1.out).mono ?_
  rintro e w1 ⟨rfl, hb1⟩
  have HB1 := Lib.hid hb1
  clear hb1
  go_wp2_with (go_at_call 64; refine (samples_ok A' c' m M (by omega) HT.out _ (H2.out.bel HB1.out)).mono ?_; rintro e w2 ⟨rfl, hb2⟩)
  go_ret
  exact ⟨rfl, HB1.out.tr hb2⟩
theorem check_ok (A A' : Option Addr) (c c' n m : Nat) (L M : List Int) (g : Int) (n1 : 2 ≤ n) (n2 : n ≤ 32) (m1 : 2 ≤ m) (m2 : m ≤ 32) (g0 : -1000 ≤ g) (g1 : g ≤ 1000) (hs : Sam L) (ht : Sam M) (w : World) (h1 : Zi w A n L) (h2 : Zi w A' m M) :
    Calls Tryz.prog 54 #[.slice A n c, .slice A' m c', .int .i64 g] w fun e w' => e = .returned (.int .i64 0) ∧ Bel w w' := by
  have HW := Lib.hid (windows_ok A A' c c' n m L M 32 n1 n2 m1 m2 (by omega) (by omega) hs ht w h1 h2)
  clear h1 h2 hs ht
  go_enter Tryz.func54, Tryz.ntmps54
  go_wp2_with fail
  go_at_call 28
  refine (sample_ok g g0 g1 _).mono ?_
  rintro e v ⟨rfl, rfl⟩
  go_wp2_with (go_at_call 48; refine HW.out.mono ?_; rintro e w2 ⟨rfl, hb2⟩)
  go_ret
  exact ⟨rfl, hb2⟩
theorem own_take {w : World} {base n m c g : Nat} {M : List Int} (h : w.ownsRow base 3 1 (.slice (some ⟨g, 0, none⟩) n c) n (zs M)) (hM : M.length = n) (hm : m ≤ n) : w.ownsRow base 3 1 (.slice (some ⟨g, 0, none⟩) m c) m (zs (M.take m)) := by
  refine ⟨by rw [zs_len, List.length_take]; omega, ?_⟩
  rcases h.2 with ⟨h0, _⟩ | ⟨g', cap, cur, e1, hb, hg, h1, h2, h3, h4⟩
  · cases h0
  · injection e1 with e1 e2 e3
    injection e1 with e1
    cases e1
    subst e3
    refine .inr ⟨g, c, cur, rfl, hb, hg, by omega, h2, h3, ?_⟩
    have e : (cur.toList.take (n * 1)).take (m * 1) = cur.toList.take (m * 1) := by rw [List.take_take]; congr 1; omega
    rw [← e, h4]
    simp [zs, List.map_take]
/-- two windows, the second not longer, and a gap -/
def SomeW (g : Nat) (w : World) (e : Ending) (w' : World) : Prop := ∃ (a b c d n m : Nat) (L M : List Int) (k : Int), e = .returned (.tuple #[.slice (some ⟨a, 0, none⟩) n b, .slice (some ⟨c, 0, none⟩) m d, .int .i64 k]) ∧ 2 ≤ n ∧ n ≤ 32 ∧ 2 ≤ m ∧ m ≤ n ∧ a < c ∧ n ≤ b ∧ m ≤ d ∧ -1000 ≤ k ∧ k ≤ 1000 ∧
  w'.ownsRow w.heap.size 3 1 (.slice (some ⟨a, 0, none⟩) n b) n (zs L) ∧ w'.ownsRow w.heap.size 3 1 (.slice (some ⟨c, 0, none⟩) m d) m (zs M) ∧ L.length = n ∧ M.length = m ∧ Sam L ∧ Sam M ∧ Ok w' g ∧ Ch g w w'
theorem own_cap {w : World} {base h n c : Nat} {xs : List Value} {e : TypeId} (hown : w.ownsRow base e 1 (.slice (some ⟨h, 0, none⟩) n c) n xs) : n ≤ c := by
  rcases hown.2 with ⟨h0, _⟩ | ⟨g, cap, cur, e1, hb, hg, h1, _⟩
  · cases h0
  · injection e1 with e1 e2 e3
    subst e3
    exact h1
end Go.Proofs.YtabmpnmhjdbdmaaGreatDoor.Ed
