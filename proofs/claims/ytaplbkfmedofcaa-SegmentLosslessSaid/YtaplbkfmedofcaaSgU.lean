/- codec.Unpack of any bytes, codec.Width of one number. -/
import Derived.Test.YtaplbkfmedofcaaSgMath
namespace Go.Proofs.Ytaplbkfmedofcaa.Sg
open Go.ChangeShapes Go.WideShapes Go.RowKit Wo Bm By Cd Pk
set_option linter.unusedVariables false
/-- what Unpack gives of any bytes -/
def SomeUnp (P : List Nat) (k : Int) (n : Nat) (w : World) (e : Ending) (w' : World) : Prop := ∃ (A : Option Addr) (m : Nat) (L : List Nat) (er : Int), e = .returned (.tuple #[.slice A m m, .int .i64 er]) ∧ Ri w' A m L ∧ m ≤ n ∧ (∀ v ∈ L, v < 4294967296) ∧
  (A = none → m = 0) ∧ (∀ ad, A = some ad → ∃ h, ad = ⟨h, 0, none⟩ ∧ w.heap.size ≤ h ∧ Bk w' h 3 (nums L).toArray) ∧ Bel w w' ∧
  (∀ (L0 : List Nat) (q : Nat), q ≤ 32 → L0.length = n → (∀ v ∈ L0, v < 2 ^ q) → k = (q : Int) → P = packed L0 q → er = 0 ∧ m = n ∧ L = L0)
theorem vals_lt (B : List Nat) (k n : Nat) (hk : k ≤ 32) : ∀ v ∈ vals B k n, v < 4294967296 := by
  intro v hv
  simp only [vals, List.mem_map] at hv
  obtain ⟨i, _, rfl⟩ := hv
  have h1 := val_lt (gB_lt B k i) k
  have h2 := Nat.pow_le_pow_right (n := 2) (by omega) hk
  have h3 : val (gB B k i) k < 2 ^ 32 := by omega
  exact h3
theorem unp_err (P : List Nat) (k : Int) (n : Nat) (w w' : World) (er : Int) (hb : Bel w w') (h : ∀ (L0 : List Nat) (q : Nat), q ≤ 32 → L0.length = n → (∀ v ∈ L0, v < 2 ^ q) → k = (q : Int) → P = packed L0 q → False) :
    SomeUnp P k n w (.returned (.tuple #[.slice none 0 0, .int .i64 er])) w' :=
  ⟨none, 0, [], er, rfl, ⟨rfl, fun h => by omega⟩, Nat.zero_le _, by simp, fun _ => rfl, fun ad e => (by cases e), hb, fun L0 q a b c d e => (h L0 q a b c d e).elim⟩
set_option maxHeartbeats 2000000 in
theorem unp_all (A : Option Addr) (c M n : Nat) (P : List Nat) (k : Int) (hk : -1 ≤ k) (hk2 : k ≤ 255) (hn : n ≤ 64) (hM : M ≤ 1000000) (w : World) (hr : Rd w A M P) :
    Calls Try.prog 83 #[.slice A M c, .int .i64 k, .int .i64 (n : Int)] w (SomeUnp P k n w) := by
  rcases (show k < 0 ∨ 32 < k ∨ (0 ≤ k ∧ k ≤ 32) by omega) with h | h | ⟨h0, h1⟩
  · clear hr
    go_enter Try.func83, Try.ntmps83
    go_wp2
    go_ret2
    exact unp_err _ _ _ _ _ _ Bel.rf (fun L0 q a _ _ d _ => by omega)
  · have q0 : ¬ k < 0 := by omega
    clear hr
    go_enter Try.func83, Try.ntmps83
    go_wp2
    go_ret2
    exact unp_err _ _ _ _ _ _ Bel.rf (fun L0 q a _ _ d _ => by omega)
  · obtain ⟨q, rfl⟩ := Int.eq_ofNat_of_zero_le h0
    have hq : q ≤ 32 := by omega
    obtain ⟨N, hN⟩ : ∃ N, (n * q + 7) / 8 = N := ⟨_, rfl⟩
    rcases Classical.em (M = N) with hMN | hMN
    · subst hMN
      refine (unpack_any A c P q n M hN (by omega) hq w hr).mono ?_
      rintro e w' (⟨hz, g, rfl, hri, ⟨hg, hbk⟩, hb⟩ | ⟨⟨K, hK1, hK2, hK3⟩, rfl, hb⟩)
      · refine ⟨_, _, vals P q n, 0, rfl, hri, Nat.le_refl _, vals_lt _ _ _ hq, fun e => (by cases e), fun ad e => ⟨g, (by cases e; rfl), hg, hbk⟩, hb, fun L0 q' a b cc d ee => ⟨rfl, rfl, ?_⟩⟩
        obtain rfl : q = q' := by omega
        subst ee
        rw [← b]
        exact vals_packed L0 q cc
      · refine unp_err _ _ _ _ _ _ hb (fun L0 q' a b cc d ee => ?_)
        obtain rfl : q = q' := by omega
        subst ee
        exact hK3 (packed_rest L0 q M (by rw [b]; exact hN) K (by rw [b]; exact hK1) hK2)
    · have HS : Hid (∀ W, Calls Try.prog 86 #[.int .i64 (n : Int), .int .i64 (q : Int)] W fun e w' => e = .returned (.int .i64 (N : Int)) ∧ W = w') := fun W => size_any n q N hN (by omega) hq W
      have HE : Hid (∀ (L0 : List Nat) (q' : Nat), q' ≤ 32 → L0.length = n → (∀ v ∈ L0, v < 2 ^ q') → (q : Int) = (q' : Int) → P = packed L0 q' → False) := fun L0 q' a b cc d ee => by
        obtain rfl : q = q' := by omega
        subst ee
        have h5 := hr.1
        rw [packed_len, b, hN] at h5
        exact hMN h5.symm
      have hNb : N ≤ 257 := by have := Nat.mul_le_mul hn hq; omega
      have ki : (q : Int) ≤ 32 := by omega
      have k0 : (0 : Int) ≤ (q : Int) := by omega
      have n0 : (0 : Int) ≤ (n : Int) := by omega
      have n1 : (n : Int) ≤ 64 := by omega
      clear hr hN h1 hk2 hk
      rcases Nat.lt_or_ge M N with hl | hl
      · have e1 : (M : Int) < (N : Int) := by omega
        clear hMN
        go_enter Try.func83, Try.ntmps83
        go_wp2_with (go_at_call 86; refine (HS.out _).mono ?_; rintro e w' ⟨rfl, rfl⟩)
        go_ret2
        exact unp_err _ _ _ _ _ _ Bel.rf HE.out
      · have e1 : ¬ (M : Int) < (N : Int) := by omega
        have e2 : (N : Int) < (M : Int) := by omega
        clear hMN
        go_enter Try.func83, Try.ntmps83
        go_wp2_with (go_at_call 86; refine (HS.out _).mono ?_; rintro e w' ⟨rfl, rfl⟩)
        go_ret2
        exact unp_err _ _ _ _ _ _ Bel.rf HE.out
theorem fits_bad (D : Int) (h : D < 0 ∨ 4294967296 ≤ D) (h2 : D ≤ 9223372036854775807) (w : World) : Calls Try.prog 88 #[.int .i64 D, .int .i64 32] w fun e w' => e = .returned (.bool false) ∧ w = w' := by
  rcases (show D < 0 ∨ (0 ≤ D ∧ 4294967296 ≤ D) by omega) with h1 | ⟨h1, h3⟩
  · have q : ¬ 0 ≤ D := by omega
    clear h
    go_enter Try.func88, Try.ntmps88
    go_wp2
    go_ret
    exact ⟨rfl, rfl⟩
  · have hz : (D / 4294967296 == 0) = false := by simp; omega
    clear h h3 h2
    go_enter Try.func88, Try.ntmps88
    go_wp2
    go_ret
    exact ⟨rfl, rfl⟩
/-- the width of one number of whatever size -/
def WdOf (D : Int) (r : Int) : Prop := -1 ≤ r ∧ r ≤ 32 ∧ ∀ d : Nat, d < 4294967296 → D = (d : Int) → r = (wd [d] : Int)
theorem width1 (D : Int) (h1 : -9223372036854775808 ≤ D) (h2 : D ≤ 9223372036854775807) (g : Nat) (w : World) (hb : Bk w g 3 #[.int .i64 D]) :
    Calls Try.prog 85 #[.slice (some ⟨g, 0, none⟩) 1 1] w fun e w' => (∃ r, e = .returned (.int .i64 r) ∧ WdOf D r) ∧ w = w' := by
  rcases (show (D < 0 ∨ 4294967296 ≤ D) ∨ (0 ≤ D ∧ D < 4294967296) by omega) with h | ⟨h3, h4⟩
  · have c0 : w.cell? ⟨g, 0, none⟩ = some (.int .i64 D) := hb.cell 0
    have HF := Lib.hid (fun W => fits_bad D h h2 W)
    have HW : Hid (WdOf D (-1)) := ⟨by omega, by omega, fun d a b => by omega⟩
    clear hb h
    go_enter Try.func85, Try.ntmps85
    go_wp2
    go_loop [3, 8] (fun s3 s8 => s3 = .int .i64 0 ∧ s8 = .int .i64 0) (fun _ _ => 0)
    case atStart => exact ⟨rfl, rfl⟩
    case round =>
      obtain ⟨rfl, rfl⟩ := hrel
      go_wp2_with (go_at_call 88; refine (HF.out _).mono ?_; rintro e w' ⟨rfl, rfl⟩)
      go_ret
      exact ⟨⟨-1, rfl, HW.out⟩, rfl⟩
  · obtain ⟨d, rfl⟩ := Int.eq_ofNat_of_zero_le h3
    have hr : Ri w (some ⟨g, 0, none⟩) 1 [d] := ri_bk (L := [d]) hb 1 rfl
    refine (width_any (some ⟨g, 0, none⟩) 1 [d] (by simp) (fun n hn => by simp at hn; omega) w hr).mono ?_
    rintro e w' ⟨rfl, rfl⟩
    have hle := wd_le [d] (fun n hn => by simp at hn; omega)
    refine ⟨⟨_, rfl, ⟨by omega, by omega, fun d' a b => ?_⟩⟩, rfl⟩
    obtain rfl : d = d' := by omega
    rfl
def hdv (K C L G S : Int) : Value := .agg #[.int .i64 K, .int .i64 C, .int .i64 L, .int .i64 G, .int .i64 S]
end Go.Proofs.Ytaplbkfmedofcaa.Sg
