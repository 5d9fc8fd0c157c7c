/- The contract of codec.Width for numbers of at most 32 bits. -/
import Derived.Test.YtaplbkfmedofcaaShelf
import Derived.Test.YtaplbkfmedofcaaBytes
import Derived.Test.YtaplbkfmedofcaaCodecFold
import Derived.Lib.ItoaNum
namespace Go.Proofs.Ytaplbkfmedofcaa.Cd
open Go.ChangeShapes Go.WideShapes Go.RowKit Wo Bm By
set_option linter.unusedVariables false
theorem fits_yes (n : Nat) (k : Nat) (hn : n < 2 ^ k) (hk : k ≤ 32) (w : World) : Calls Try.prog 88 #[.int .i64 (n : Int), .int .i64 (k : Int)] w fun e w' => e = .returned (.bool true) ∧ w = w' := by
  have hz : (n : Int) / 2 ^ k = 0 := by
    rw [show (2 : Int) ^ k = ((2 ^ k : Nat) : Int) by simp]
    have : n / 2 ^ k = 0 := Nat.div_eq_of_lt hn
    rw [← Int.natCast_ediv, this]; rfl
  have ki : (k : Int) ≤ 32 := by omega
  have k0 : (0 : Int) ≤ (k : Int) := by omega
  have n0 : (0 : Int) ≤ (n : Int) := by omega
  go_enter Try.func88, Try.ntmps88
  go_wp2
  go_ret
  exact ⟨rfl, rfl⟩
/-- the slice at A of length n reads as the numbers L -/
def Ri (w : World) (A : Option Addr) (n : Nat) (L : List Nat) : Prop := L.length = n ∧ (0 < n → ∃ ad : Addr, A = some ad ∧ ad.block < w.heap.size ∧ ∀ j, j < n → w.cell? (ad.add j) = some (.int .i64 (L.getD j 0 : Nat)))
def wd (L : List Nat) : Nat := L.foldl (fun m n => max m (Lib.bitLen n)) 0
theorem wd_snoc (L : List Nat) (n : Nat) : wd (L ++ [n]) = max (wd L) (Lib.bitLen n) := by simp [wd, List.foldl_append]
theorem bl_le (n : Nat) (h : n < 4294967296) : Lib.bitLen n ≤ 32 := by
  have hb := Lib.bitLenAux_bounds 64 n (by omega)
  rcases Nat.eq_zero_or_pos n with h0 | h0
  · subst h0; decide
  · obtain ⟨c1, c2, c3⟩ := hb (by omega)
    have e : Lib.bitLen n = Lib.bitLenAux 64 n := rfl
    rw [e]
    rcases Nat.lt_or_ge 32 (Lib.bitLenAux 64 n) with h1 | h1
    · have := Nat.pow_le_pow_right (n := 2) (by omega) (show 32 ≤ Lib.bitLenAux 64 n - 1 by omega)
      omega
    · exact h1
theorem wd_le (L : List Nat) (h : ∀ n ∈ L, n < 4294967296) : wd L ≤ 32 := by
  have : ∀ (L : List Nat) (m : Nat), m ≤ 32 → (∀ n ∈ L, n < 4294967296) → L.foldl (fun m n => max m (Lib.bitLen n)) m ≤ 32 := by
    intro L
    induction L with
    | nil => intro m hm _; exact hm
    | cons n L ih => intro m hm h; exact ih _ (Nat.max_le.2 ⟨hm, bl_le n (h n (by simp))⟩) (fun x hx => h x (by simp [hx]))
  exact this L 0 (by omega) h
set_option maxHeartbeats 8000000 in
set_option maxRecDepth 100000 in
theorem width_any (A : Option Addr) (c : Nat) (L : List Nat) (hL : L.length ≤ 1000000) (hl : ∀ n ∈ L, n < 4294967296) (w : World) (hr : Ri w A L.length L) :
    Calls Try.prog 85 #[.slice A L.length c] w fun e w' => e = .returned (.int .i64 (wd L : Int)) ∧ w = w' := by
  have HR := Lib.hid hr
  have HL := Lib.hid hl
  have li : (L.length : Int) ≤ 1000000 := by omega
  clear hr hl
  go_enter Try.func85, Try.ntmps85
  go_wp2
  go_loop [3, 8] (fun s3 s8 => ∃ k : Nat, k ≤ L.length ∧ s8 = .int .i64 (k : Int) ∧ s3 = .int .i64 (wd (L.take k) : Int)) (fun _ s8 => L.length - (intOf s8).toNat)
  case atStart => exact ⟨0, by omega, rfl, rfl⟩
  case round =>
    obtain ⟨k, hk, rfl, rfl⟩ := hrel
    have hw := wd_le (L.take k) (fun x hx => HL.out x (List.mem_of_mem_take hx))
    rcases Nat.lt_or_ge k L.length with hlt | hge
    · obtain ⟨ad, rfl, hab, hac⟩ := HR.out.2 (by omega)
      have hcell := hac k hlt
      have hsn : wd (L.take (k + 1)) = max (wd (L.take k)) (Lib.bitLen (L.getD k 0)) := by
        rw [← wd_snoc]
        congr 1
        rw [List.take_succ_eq_append_getElem hlt, List.getD_eq_getElem?_getD, List.getElem?_eq_getElem hlt]; rfl
      have hnl : L.getD k 0 < 4294967296 := HL.out _ (by rw [List.getD_eq_getElem?_getD, List.getElem?_eq_getElem hlt]; exact List.getElem_mem hlt)
      have hbl := bl_le _ hnl
      obtain ⟨n, hn⟩ : ∃ n, L.getD k 0 = n := ⟨_, rfl⟩
      rw [hn] at hcell hsn hnl hbl
      have HF : Hid (∀ w, Calls Try.prog 88 #[.int .i64 (n : Int), .int .i64 32] w fun e w' => e = .returned (.bool true) ∧ w = w') := fun w => fits_yes n 32 hnl (by omega) w
      obtain ⟨b, hb⟩ : ∃ b, Lib.bitLen n = b := ⟨_, rfl⟩
      have HLN : Hid (∀ w, Calls Try.prog 89 #[.int .u64 (n : Int)] w fun e w' => e = .returned (.int .i64 (b : Int)) ∧ w = w') := fun w => by
        refine (Try.bits_Len n w (by omega) (by omega)).mono fun e w' ⟨he, hw⟩ => ⟨?_, hw.symm⟩
        rw [he, Int.toNat_natCast, hb]
      rw [hb] at hsn hbl
      obtain ⟨m, hm⟩ : ∃ m, wd (L.take k) = m := ⟨_, rfl⟩
      rw [hm] at hsn hw ⊢
      have HN := Lib.hid hn
      have HM := Lib.hid hm
      have HB := Lib.hid hb
      have ni : (n : Int) < 4294967296 := by omega
      have ki : (k : Int) < (L.length : Int) := by omega
      rcases Nat.lt_trichotomy m b with h | h | h
      · have HS : Hid (wd (L.take (k + 1)) = b) := by show _ = _; rw [hsn]; omega
        clear hsn hn hm hb hac
        go_wp2_with (first | (go_at_call 88; refine (HF.out _).mono ?_; rintro e w' ⟨rfl, rfl⟩) | (go_at_call 89; refine (HLN.out _).mono ?_; rintro e w' ⟨rfl, rfl⟩))
        go_round
        case rel => exact ⟨k + 1, by omega, by go_num, by rw [HS.out]; first | done | (congr 1; omega)⟩
        case measure => simp [intOf]; omega
      · have HS : Hid (wd (L.take (k + 1)) = b) := by show _ = _; rw [hsn]; omega
        subst h
        clear hsn hn hb hac
        go_wp2_with (first | (go_at_call 88; refine (HF.out _).mono ?_; rintro e w' ⟨rfl, rfl⟩) | (go_at_call 89; refine (HLN.out _).mono ?_; rintro e w' ⟨rfl, rfl⟩))
        go_round
        case rel => exact ⟨k + 1, by omega, by go_num, by rw [HS.out]; first | done | (congr 1; omega)⟩
        case measure => simp [intOf]; omega
      · have HS : Hid (wd (L.take (k + 1)) = m) := by show _ = _; rw [hsn]; omega
        clear hsn hn hm hb hac
        go_wp2_with (first | (go_at_call 88; refine (HF.out _).mono ?_; rintro e w' ⟨rfl, rfl⟩) | (go_at_call 89; refine (HLN.out _).mono ?_; rintro e w' ⟨rfl, rfl⟩))
        go_round
        case rel => exact ⟨k + 1, by omega, by go_num, by rw [HS.out]; first | done | (congr 1; omega)⟩
        case measure => simp [intOf]; omega
    · obtain rfl : k = L.length := by omega
      have hall : L.take L.length = L := List.take_of_length_le (Nat.le_refl _)
      rw [hall] at hw ⊢
      obtain ⟨m, hm⟩ : ∃ m, wd L = m := ⟨_, rfl⟩
      rw [hm] at hw ⊢
      have HM := Lib.hid hm
      clear hall hm
      go_wp2
      go_ret
      exact ⟨by rw [← HM.out]; rfl, rfl⟩
end Go.Proofs.Ytaplbkfmedofcaa.Cd
