/- The contract of codec.Int. -/
import Derived.Test.YtaplbkfmedofcaaCodecFold
import Derived.Test.YtaplbkfmedofcaaBytes
namespace Go.Proofs.Ytaplbkfmedofcaa.Cd
open Go.ChangeShapes Go.WideShapes Go.RowKit Wo Bm By
set_option linter.unusedVariables false
def dval (d : Int × Int × Int) : Value := .tuple #[.int .i64 d.1, .int .i64 d.2.1, .int .i64 d.2.2]
theorem pow7 (i : Nat) : (2 : Nat) ^ (7 * i) = 128 ^ i := by rw [Nat.pow_mul]
theorem shl7 (x i : Nat) : IntKind.u64.wrap ((x : Int) * 2 ^ (7 * i)) = ((x * 128 ^ i % 18446744073709551616 : Nat) : Int) := by
  rw [IntKind.wrap_u64, ← pow7]
  simp
theorem or7 {u x i : Nat} (hi : i ≤ 9) (hu : u < 128 ^ i) (hx : x < 128) : bits .or .u64 (u : Int) (IntKind.u64.wrap ((x : Int) * 2 ^ (7 * i))) = ((u + x * 128 ^ i % 18446744073709551616 : Nat) : Int) := by
  rw [shl7]
  refine or_u64 (i := 7 * i) (by omega) (by rw [pow7]; exact hu) ?_ (by omega)
  rw [pow7]
  have hd : (128 : Nat) ^ i ∣ 18446744073709551616 := ⟨2 ^ (64 - 7 * i), by
    rw [← pow7, ← Nat.pow_add, show 7 * i + (64 - 7 * i) = 64 by omega]⟩
  rw [Nat.mod_mod_of_dvd _ hd, Nat.mul_mod_left]
theorem next7 {u x i : Nat} (hi : i ≤ 8) (hu : u < 128 ^ i) (hx : x < 128) : u + x * 128 ^ i % 18446744073709551616 < 128 ^ (i + 1) := by
  have h1 : x * 128 ^ i % 18446744073709551616 ≤ x * 128 ^ i := Nat.mod_le _ _
  have h2 : x * 128 ^ i ≤ 127 * 128 ^ i := Nat.mul_le_mul_right _ (by omega)
  rw [Nat.pow_succ]
  omega
theorem last7 {u x i : Nat} (hi : i ≤ 9) (hu : u < 128 ^ i) (hx : x < 128) : u + x * 128 ^ i % 18446744073709551616 < 18446744073709551616 := by
  have hx1 : x * 128 ^ i % 18446744073709551616 < 18446744073709551616 := Nat.mod_lt _ (by decide)
  have h := or7 hi hu hx
  have hd : (128 : Nat) ^ i ∣ 18446744073709551616 := ⟨2 ^ (64 - 7 * i), by
    rw [← pow7, ← Nat.pow_add, show 7 * i + (64 - 7 * i) = 64 by omega]⟩
  have hm : x * 128 ^ i % 18446744073709551616 % 128 ^ i = 0 := by rw [Nat.mod_mod_of_dvd _ hd, Nat.mul_mod_left]
  obtain ⟨q, hq⟩ := Nat.dvd_of_mod_eq_zero hm
  obtain ⟨p, hp⟩ := hd
  rw [hq] at hx1 ⊢
  rw [hp] at hx1 ⊢
  have hqp : q < p := Nat.lt_of_mul_lt_mul_left hx1
  have : 128 ^ i * (q + 1) ≤ 128 ^ i * p := Nat.mul_le_mul_left _ hqp
  rw [Nat.mul_add] at this
  omega
set_option maxHeartbeats 16000000 in
set_option maxRecDepth 100000 in
theorem int_any (A : Option Addr) (c : Nat) (B : List Nat) (at_ : Nat) (hat : at_ ≤ B.length) (hB : B.length ≤ 140737488355000) (w : World) (hr : Rd w A B.length B) :
    Calls Try.prog 48 #[.slice A B.length c, .int .i64 (at_ : Int)] w fun e w' => e = .returned (dval (dec B at_)) ∧ w = w' := by
  have HR := Lib.hid hr
  have bl : (B.length : Int) ≤ 140737488355000 := by omega
  have ai : (at_ : Int) ≤ (B.length : Int) := by omega
  have a0 : (0 : Int) ≤ (at_ : Int) := by omega
  clear hr
  go_enter Try.func48, Try.ntmps48
  go_wp2
  go_loop [7, 18] (fun s7 s18 => ∃ i u : Nat, i ≤ 10 ∧ s18 = .int .i64 (i : Int) ∧ s7 = .int .u64 (u : Int) ∧ (i ≤ 9 → u < 128 ^ i) ∧ at_ + i ≤ B.length ∧ decGo B at_ (10 - i) i u = dec B at_) (fun _ s18 => 10 - (intOf s18).toNat)
  case atStart => exact ⟨0, 0, by omega, rfl, rfl, by intro _; decide, by omega, rfl⟩
  case round =>
    obtain ⟨i, u, hi, rfl, rfl, hu, hl, hd⟩ := hrel
    rcases Nat.lt_or_ge i 10 with h10 | h10
    · have hul := hu (by omega)
      obtain ⟨f, hf⟩ : ∃ f, 10 - i = f + 1 := ⟨9 - i, by omega⟩
      rw [hf, decGo] at hd
      have hf2 : f = 10 - (i + 1) := by omega
      have i10 : (i : Int) < 10 := by omega
      have i0 : (0 : Int) ≤ (i : Int) := by omega
      rcases Nat.lt_or_ge (at_ + i) B.length with hlt | hge
      · rw [if_neg (by omega)] at hd
        have hne : ((at_ : Int) + (i : Int) == (B.length : Int)) = false := by simp; omega
        have hb := HR.out.byte (at_ + i)
        obtain ⟨ad, rfl, hab, hac⟩ := HR.out.2.2 (by omega)
        have hcell := hac (at_ + i) hlt
        obtain ⟨b, hbb⟩ : ∃ b, B.getD (at_ + i) 0 = b := ⟨_, rfl⟩
        rw [hbb] at hb hcell hd
        have hx : b % 128 < 128 := Nat.mod_lt _ (by decide)
        have e0 := and127_u8 hb
        have e1 := or7 (by omega) hul hx
        have hn := fun h : i ≤ 8 => next7 h hul hx
        have hll := last7 (by omega) hul hx
        obtain ⟨x, hxx⟩ : ∃ x, b % 128 = x := ⟨_, rfl⟩
        rw [hxx] at e0 e1 hn hll hd
        obtain ⟨y, hy⟩ : ∃ y, u + x * 128 ^ i % 18446744073709551616 = y := ⟨_, rfl⟩
        rw [hy] at e1 hn hll hd
        have HD := Lib.hid hd
        have HN := Lib.hid hn
        have HLL := Lib.hid hll
        have HE := Lib.hid (And.intro hbb (And.intro hxx hy))
        have bi : (b : Int) < 256 := by omega
        have xi : (x : Int) < 128 := by omega
        have aii : (at_ : Int) + (i : Int) < (B.length : Int) := by omega
        clear hd hn hll hbb hxx hy hx hu hul hac hf hl
        rcases Nat.lt_or_ge 127 b with hg | hg
        · have gi : (127 : Int) < (b : Int) := by omega
          have HD2 : Hid (decGo B at_ f (i + 1) y = dec B at_) := by have := HD.out; rwa [if_pos hg] at this
          have HA : Hid (at_ + (i + 1) ≤ B.length) := by show _ ≤ _; omega
          have HF : Hid (f = 10 - (i + 1)) := hf2
          clear HD hf2
          go_wp2
          go_round
          case rel => exact ⟨i + 1, y, by omega, by go_num, rfl, fun h => HN.out (by omega), HA.out, by rw [← HF.out]; exact HD2.out⟩
          case measure => simp [intOf]; omega
        · have gi : ¬ (127 : Int) < (b : Int) := by omega
          have gi2 : (b : Int) ≤ 127 := by omega
          have HD1 : Hid ((if (i = 9 ∧ 1 < b) ∨ (0 < i ∧ b = 0) then ((0 : Int), (0 : Int), (3 : Int)) else (unf y, ((at_ + i + 1 : Nat) : Int), 0)) = dec B at_) := by have := HD.out; rwa [if_neg (by omega)] at this
          clear HD HN hf2
          rcases Classical.em ((i = 9 ∧ 1 < b) ∨ (0 < i ∧ b = 0)) with hrej | hrej
          · have HD2 : Hid (((0 : Int), (0 : Int), (3 : Int)) = dec B at_) := by have := HD1.out; rwa [if_pos hrej] at this
            clear HD1
            rcases Classical.em (i = 9 ∧ 1 < b) with h9 | h9
            · have t1 : ((i : Int) == 9) = true := by simp; omega
              have t2 : (1 : Int) < (b : Int) := by omega
              clear hrej h9
              go_wp2
              go_ret3
              exact ⟨by rw [← HD2.out]; rfl, rfl⟩
            · have t3 : (0 : Int) < (i : Int) := by omega
              have t4 : ((b : Int) == 0) = true := by simp; omega
              have t1 : ((i : Int) == 9) = true ∧ ¬ (1 : Int) < (b : Int) ∨ ((i : Int) == 9) = false := by
                rcases Nat.lt_or_ge i 9 with h | h
                · exact .inr (by simp; omega)
                · exact .inl ⟨by simp; omega, by omega⟩
              clear hrej h9
              rcases t1 with ⟨t1, t2⟩ | t1
              · go_wp2
                go_ret3
                exact ⟨by rw [← HD2.out]; rfl, rfl⟩
              · go_wp2
                go_ret3
                exact ⟨by rw [← HD2.out]; rfl, rfl⟩
          · have HD2 : Hid ((unf y, ((at_ + i + 1 : Nat) : Int), (0 : Int)) = dec B at_) := by have := HD1.out; rwa [if_neg hrej] at this
            clear HD1
            have t1 : ((i : Int) == 9) = true ∧ ¬ (1 : Int) < (b : Int) ∨ ((i : Int) == 9) = false := by
              rcases Nat.lt_or_ge i 9 with h | h
              · exact .inr (by simp; omega)
              · exact .inl ⟨by simp; omega, by omega⟩
            have t3 : (0 : Int) < (i : Int) ∧ ((b : Int) == 0) = false ∨ ¬ (0 : Int) < (i : Int) := by
              rcases Nat.eq_zero_or_pos i with h | h
              · exact .inr (by omega)
              · exact .inl ⟨by omega, by simp; omega⟩
            clear hrej
            rcases t1 with ⟨t1, t2⟩ | t1 <;> rcases t3 with ⟨t3, t4⟩ | t3
            all_goals
              go_wp2_with (go_at_call 57; refine (unfold_any y HLL.out _).mono ?_; rintro e w' ⟨rfl, rfl⟩)
              go_ret3
              exact ⟨by rw [← HD2.out]; simp [dval], rfl⟩
      · rw [if_pos (by omega)] at hd
        have heq : ((at_ : Int) + (i : Int) == (B.length : Int)) = true := by simp; omega
        have HD2 := Lib.hid hd
        clear hd hu hul hf hl
        go_wp2
        go_ret3
        exact ⟨by rw [← HD2.out]; rfl, rfl⟩
    · obtain rfl : i = 10 := by omega
      have hd2 : ((0 : Int), (0 : Int), (3 : Int)) = dec B at_ := hd
      have HD2 := Lib.hid hd2
      clear hd hd2 hu
      go_wp2
      go_ret3
      exact ⟨by rw [← HD2.out]; rfl, rfl⟩
end Go.Proofs.Ytaplbkfmedofcaa.Cd
