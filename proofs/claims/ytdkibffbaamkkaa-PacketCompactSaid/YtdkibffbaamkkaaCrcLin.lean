/- Eight steps of the register at once, and one byte at a time. -/
import Derived.Test.YtdkibffbaamkkaaCrcMath
import Derived.Test.YtdkibffbaamkkaaCodecSum
namespace Go.Proofs.Ytdkibffbaamkkaa.Cr
theorem step1_xor (a b : Nat) : step1 (a ^^^ b) = step1 a ^^^ step1 b := by
  have h1 : (a ^^^ b) / 2 = a / 2 ^^^ b / 2 := by
    have := Nat.xor_div_two_pow (a := a) (b := b) (n := 1)
    simpa using this
  have h2 : (a ^^^ b) % 2 = (a % 2) ^^^ (b % 2) := by
    have := Nat.xor_mod_two_pow (a := a) (b := b) (n := 1)
    simpa using this
  unfold step1
  rw [h1, h2]
  rcases Nat.mod_two_eq_zero_or_one a with ha | ha <;> rcases Nat.mod_two_eq_zero_or_one b with hb | hb <;> rw [ha, hb]
  · simp
  · simp [Nat.xor_assoc]
  · simp only [Nat.xor_zero, if_true, Nat.zero_ne_one, if_false]
    rw [Nat.xor_assoc, Nat.xor_assoc, Nat.xor_comm 3988292384]
  · simp only [Nat.xor_self, if_true, Nat.zero_ne_one, if_false]
    rw [Nat.xor_assoc, Nat.xor_comm 3988292384, Nat.xor_assoc (b / 2), Nat.xor_self, Nat.xor_zero]
theorem stepn_xor (n : Nat) : ∀ a b, stepn n (a ^^^ b) = stepn n a ^^^ stepn n b := by
  induction n with
  | zero => intro a b; rfl
  | succ n ih => intro a b; rw [stepn, step1_xor, ih]; rfl
theorem step1_two (z : Nat) : step1 (2 * z) = z := by unfold step1; rw [if_neg (by omega)]; omega
theorem stepn_256 (y : Nat) : stepn 8 (y * 256) = y := by
  have e : y * 256 = 2 * (2 * (2 * (2 * (2 * (2 * (2 * (2 * y))))))) := by omega
  rw [e]
  simp only [stepn, step1_two]
theorem split_256 (x : Nat) : x = (x / 256 * 256) ^^^ (x % 256) := by
  apply Nat.eq_of_testBit_eq
  intro i
  rw [Nat.testBit_xor]
  have h1 : x / 256 * 256 = (x >>> 8) <<< 8 := by rw [Nat.shiftLeft_eq, Nat.shiftRight_eq_div_pow]
  have h2 : x % 256 = x % 2 ^ 8 := rfl
  rw [h1, h2, Nat.testBit_shiftLeft, Nat.testBit_shiftRight, Nat.testBit_mod_two_pow]
  by_cases h : i < 8
  · simp [h, Nat.not_le.2 h]
  · simp [h, Nat.le_of_not_lt h, show 8 + (i - 8) = i by omega]
theorem tab_split (x : Nat) : tab x = (x / 256) ^^^ tab (x % 256) := by
  rw [← stepn_tab, ← stepn_tab]
  conv => lhs; rw [split_256 x]
  rw [stepn_xor, stepn_256]
theorem stp_tab {r c : Nat} (hc : c < 256) : tab (r ^^^ c) = stp r c := by
  rw [tab_split]
  have h1 : (r ^^^ c) / 256 = r / 256 := by
    have := Nat.xor_div_two_pow (a := r) (b := c) (n := 8)
    rw [show (2 : Nat) ^ 8 = 256 from rfl] at this
    rw [this, Nat.div_eq_of_lt hc, Nat.xor_zero]
  have h2 : (r ^^^ c) % 256 = (r % 256) ^^^ c := by
    have := Nat.xor_mod_two_pow (a := r) (b := c) (n := 8)
    rw [show (2 : Nat) ^ 8 = 256 from rfl] at this
    rw [this, Nat.mod_eq_of_lt hc]
  rw [h1, h2]
  rfl
end Go.Proofs.Ytdkibffbaamkkaa.Cr
