/- pieces.Starts, pieces.Sums of valid arguments. -/
import Derived.Test.YtkonknkoggfeaaaPie3
import Derived.Test.YtkonknkoggfeaaaEuc0
import Derived.BigQuiet
namespace Go.Proofs.Ytkonknkoggfeaaa.Pc
open Go.ChangeShapes Go.WideShapes Go.RowKit Wo Sr Wi Eu
set_option linter.unusedVariables false
def sts (m n : Nat) : List Int := (List.range n).map (fun k => (st m n k : Int)) ++ [(m : Int)]
theorem sts_len (m n : Nat) : (sts m n).length = n + 1 := by simp [sts]
theorem starts_c (m n : Nat) (n1 : 1 ≤ n) (n8 : n ≤ 8) (m32 : m ≤ 32) (w : World) :
    Calls Try.prog 51 #[.int .i64 (m : Int), .int .i64 (n : Int)] w fun e w' => ∃ h c, e = .returned (.slice (some ⟨h, 0, none⟩) (n + 1) c) ∧ n + 1 ≤ c ∧ w.heap.size ≤ h ∧ w'.ownsRow w.heap.size 3 1 (.slice (some ⟨h, 0, none⟩) (n + 1) c) (n + 1) (zs (sts m n)) ∧ Bel w w' := by
  refine (callsIn_wide.1 (starts_in Fence.wide 3 trivial trivial trivial rfl (by omega) m n n1 n8 m32 w)).mono ?_
  rintro e w' ⟨v, rfl, hr, hb⟩
  obtain ⟨g, c, rfl, hc, hg⟩ := row_form (L := sts m n) hr (by omega)
  exact ⟨g, c, rfl, hc, hg, hr, hb⟩
theorem sums_c (hx : Addr) (c m n : Nat) (L : List Int) (n1 : 1 ≤ n) (n8 : n ≤ 8) (m32 : m ≤ 32) (mc : m ≤ c) (nm : n ≤ m) (hL : ∀ x ∈ L, -64000 ≤ x ∧ x ≤ 64000) (w : World) (hz : Zi w (some hx) m L) :
    Calls Try.prog 53 #[.slice (some hx) m c, .int .i64 (n : Int)] w fun e w' => ∃ h c, e = .returned (.slice (some ⟨h, 0, none⟩) n c) ∧ n ≤ c ∧ w.heap.size ≤ h ∧ w'.ownsRow w.heap.size 3 1 (.slice (some ⟨h, 0, none⟩) n c) n (zs (pls L m n)) ∧ Bel w w' := by
  have hxl : hx.block < w.heap.size := by
    obtain ⟨ad, h1, h2, _⟩ := hz.2 (by omega)
    cases h1
    exact h2
  refine (callsIn_wide.1 (sums_in Fence.wide 3 trivial trivial trivial rfl (by omega) hx c m n L n1 n8 m32 mc nm hL w hz hxl)).mono ?_
  rintro e w' ⟨v, rfl, hr, hb⟩
  obtain ⟨g, c, rfl, hc, hg⟩ := row_form (L := pls L m n) hr (by omega)
  exact ⟨g, c, rfl, hc, hg, hr, hb⟩
theorem pieces_ok (m n : Nat) (n1 : 1 ≤ n) (n8 : n ≤ 8) (nm : n ≤ m) (w : World) :
    Calls Try.prog 50 #[.int .i64 (m : Int), .int .i64 (n : Int)] w fun e w' => e = .returned (.int .i64 0) ∧ Bel w w' := by
  have h1 : ¬ (n : Int) < 1 := by omega
  have h2 : ¬ (8 : Int) < (n : Int) := by omega
  have h3 : ¬ (m : Int) < (n : Int) := by omega
  have d1 : decide ((n : Int) < 1) = false := decide_eq_false h1
  have d2 : decide ((8 : Int) < (n : Int)) = false := decide_eq_false h2
  have d3 : decide ((m : Int) < (n : Int)) = false := decide_eq_false h3
  go_enter Try.func50, Try.ntmps50
  go_wp2
  go_ret
  exact ⟨rfl, by first | exact Bel.rf | exact Bel.rf.drw⟩
theorem check_ok (A : Option Addr) (c m n : Nat) (L : List Int) (m2 : 2 ≤ m) (m32 : m ≤ 32) (n1 : 1 ≤ n) (n8 : n ≤ 8) (nm : n ≤ m) (hs : Sam L) (w : World) (h1 : Zi w A m L) :
    Calls Try.prog 52 #[.slice A m c, .int .i64 (n : Int)] w fun e w' => e = .returned (.int .i64 0) ∧ Bel w w' := by
  have WK : Hid (∀ W, _) := fun W => window_ok A c m L m2 m32 hs W
  have PK : Hid (∀ W, _) := fun W => pieces_ok m n n1 n8 nm W
  have H1 := Lib.hid h1
  clear h1 hs
  go_enter Try.func52, Try.ntmps52
  go_wp2_with (go_at_call 22; refine (WK.out _ (by first | exact H1.out | exact H1.out.bel Bel.rf.drw)).mono ?_; rintro e w8 ⟨rfl, hb8⟩)
  go_wp2_with (go_at_call 50; refine (PK.out _).mono ?_; rintro e w9 ⟨rfl, hb9⟩)
  go_ret
  exact ⟨rfl, hb8.tr hb9⟩
theorem Starts_ok (m n : Nat) (m2 : 2 ≤ m) (m32 : m ≤ 32) (n1 : 1 ≤ n) (n8 : n ≤ 8) (nm : n ≤ m) (w : World) :
    Calls Try.prog 32 #[.int .i64 (m : Int), .int .i64 (n : Int)] w fun e w' => ∃ h c, e = .returned (.tuple #[.slice (some ⟨h, 0, none⟩) (n + 1) c, .int .i64 0]) ∧ n + 1 ≤ c ∧ w.heap.size ≤ h ∧ w'.ownsRow w.heap.size 3 1 (.slice (some ⟨h, 0, none⟩) (n + 1) c) (n + 1) (zs (sts m n)) ∧ Bel w w' := by
  have LK : Hid (∀ W, _) := fun W => length_ok (m : Int) (by omega) (by omega) W
  have PK : Hid (∀ W, _) := fun W => pieces_ok m n n1 n8 nm W
  have SK : Hid (∀ W, _) := fun W => starts_c m n n1 n8 m32 W
  go_enter Try.func32, Try.ntmps32
  go_wp2_with (go_at_call 23; refine (LK.out _).mono ?_; rintro e w7 ⟨rfl, rfl⟩)
  go_wp2_with (go_at_call 50; refine (PK.out _).mono ?_; rintro e w8 ⟨rfl, hb8⟩)
  go_wp2_with (go_at_call 51; refine (SK.out _).mono ?_; rintro e w9 ⟨h9, c9, rfl, q1, q2, q3, hb9⟩)
  go_ret2
  have z := hb8.size
  exact ⟨h9, c9, rfl, q1, by omega, own_lo q3 (by omega), hb8.tr hb9⟩
theorem Sums_ok (hx : Addr) (c m n : Nat) (L : List Int) (m2 : 2 ≤ m) (m32 : m ≤ 32) (n1 : 1 ≤ n) (n8 : n ≤ 8) (nm : n ≤ m) (mc : m ≤ c) (hs : Sam L) (w : World) (h1 : Zi w (some hx) m L) :
    Calls Try.prog 33 #[.slice (some hx) m c, .int .i64 (n : Int)] w fun e w' => ∃ h c, e = .returned (.tuple #[.slice (some ⟨h, 0, none⟩) n c, .int .i64 0]) ∧ n ≤ c ∧ w.heap.size ≤ h ∧ w'.ownsRow w.heap.size 3 1 (.slice (some ⟨h, 0, none⟩) n c) n (zs (pls L m n)) ∧ Bel w w' := by
  have CK : Hid (∀ W, _) := fun W => check_ok (some hx) c m n L m2 m32 n1 n8 nm hs W
  have SK : Hid (∀ W, _) := fun W => sums_c hx c m n L n1 n8 m32 mc nm (fun x h => by have := hs x h; omega) W
  have H1 := Lib.hid h1
  clear h1 hs
  go_enter Try.func33, Try.ntmps33
  go_wp2_with (go_at_call 52; refine (CK.out _ H1.out).mono ?_; rintro e w8 ⟨rfl, hb8⟩)
  go_wp2_with (go_at_call 53; refine (SK.out _ (H1.out.bel hb8)).mono ?_; rintro e w9 ⟨h9, c9, rfl, q1, q2, q3, hb9⟩)
  go_ret2
  have z := hb8.size
  exact ⟨h9, c9, rfl, q1, by omega, own_lo q3 (by omega), hb8.tr hb9⟩
end Go.Proofs.Ytkonknkoggfeaaa.Pc
